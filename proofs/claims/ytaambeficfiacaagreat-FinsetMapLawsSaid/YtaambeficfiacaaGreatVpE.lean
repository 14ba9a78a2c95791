/- value.Map: the map of some keys and values. Conditions: at most 1048576 keys, as many values, all of at most 2^48 bytes; at most 524288 keys if they are values. -/
import Derived.Shelf.SlSortCmp.WholeK
import Derived.Ground.SlsfProg
import Derived.Test.YtaambeficfiacaaGreatProg
import Derived.Test.YtaambeficfiacaaGreatVpC
import Derived.Sort.OwnSorted
namespace Go.Proofs
open Go.Shelf
def Tryz.sortVM_ren : Go.Shelf.Ren := ⟨fun | 6 => 120 | 15 => 85 | 14 => 132 | 28 => 108 | 29 => 109 | 20 => 157 | 21 => 158 | 22 => 159 | 23 => 160 | 24 => 161 | 25 => 162 | 26 => 163 | 27 => 164 | 46 => 177 | 47 => 166 | 48 => 167 | 49 => 178 | 50 => 179 | 57 => 182 | n => n, fun | 22 => 108 | 24 => 109 | 25 => 111 | 3 => 3 | 39 => 50 | 0 => 0 | 53 => 101 | 55 => 80 | 4 => 4 | 46 => 125 | 45 => 124 | 50 => 129 | 5 => 5 | 9 => 9 | 66 => 144 | 70 => 148 | 76 => 156 | 77 => 116 | n => n, fun | n => n⟩
theorem Tryz.sortVM : Go.Proofs.SlLaysF0.n6 Tryz.prog Tryz.sortVM_ren := {
  mixed := by kernel_rfl
  f6 := ⟨Tryz.f120.name, by decide, Tryz.func120.trans (congrArg some (by kernel_rfl))⟩
  f14 := ⟨Tryz.f132.name, by decide, Tryz.func132.trans (congrArg some (by kernel_rfl))⟩
  f15 := Tryz.func85.trans (congrArg some (by kernel_rfl))
  f20 := ⟨Tryz.f157.name, by decide, Tryz.func157.trans (congrArg some (by kernel_rfl))⟩
  f21 := ⟨Tryz.f158.name, by decide, Tryz.func158.trans (congrArg some (by kernel_rfl))⟩
  f22 := ⟨Tryz.f159.name, by decide, Tryz.func159.trans (congrArg some (by kernel_rfl))⟩
  f23 := ⟨Tryz.f160.name, by decide, Tryz.func160.trans (congrArg some (by kernel_rfl))⟩
  f24 := ⟨Tryz.f161.name, by decide, Tryz.func161.trans (congrArg some (by kernel_rfl))⟩
  f25 := ⟨Tryz.f162.name, by decide, Tryz.func162.trans (congrArg some (by kernel_rfl))⟩
  f26 := ⟨Tryz.f163.name, by decide, Tryz.func163.trans (congrArg some (by kernel_rfl))⟩
  f27 := ⟨Tryz.f164.name, by decide, Tryz.func164.trans (congrArg some (by kernel_rfl))⟩
  f28 := Tryz.func108.trans (congrArg some (by kernel_rfl))
  f29 := Tryz.func109.trans (congrArg some (by kernel_rfl))
  f46 := ⟨Tryz.f177.name, by decide, Tryz.func177.trans (congrArg some (by kernel_rfl))⟩
  f47 := Tryz.func166.trans (congrArg some (by kernel_rfl))
  f48 := Tryz.func167.trans (congrArg some (by kernel_rfl))
  f49 := ⟨Tryz.f178.name, by decide, Tryz.func178.trans (congrArg some (by kernel_rfl))⟩
  f50 := ⟨Tryz.f179.name, by decide, Tryz.func179.trans (congrArg some (by kernel_rfl))⟩
  f57 := ⟨Tryz.f182.name, by decide, Tryz.func182.trans (congrArg some (by kernel_rfl))⟩
  t0 := Tryz.underlying0
  a0 := Tryz.isAgg0
  z0 := Tryz.sizeOf0
  v0 := Tryz.zeroValue0
  t3 := Tryz.underlying3
  a3 := Tryz.isAgg3
  z3 := Tryz.sizeOf3
  v3 := Tryz.zeroValue3
  t4 := Tryz.underlying4
  a4 := Tryz.isAgg4
  z4 := Tryz.sizeOf4
  v4 := Tryz.zeroValue4
  t5 := Tryz.underlying5
  a5 := Tryz.isAgg5
  z5 := Tryz.sizeOf5
  v5 := Tryz.zeroValue5
  t9 := Tryz.underlying9
  a9 := Tryz.isAgg9
  z9 := Tryz.sizeOf9
  v9 := Tryz.zeroValue9
  t22 := Tryz.underlying108
  a22 := Tryz.isAgg108
  z22 := Tryz.sizeOf108
  v22 := Tryz.zeroValue108
  t25 := Tryz.underlying111
  a25 := Tryz.isAgg111
  z25 := Tryz.sizeOf111
  v25 := Tryz.zeroValue111
  t39 := Tryz.underlying50
  a39 := Tryz.isAgg50
  z39 := Tryz.sizeOf50
  v39 := Tryz.zeroValue50
  t45 := Tryz.underlying124
  a45 := Tryz.isAgg124
  z45 := Tryz.sizeOf124
  v45 := Tryz.zeroValue124
  t46 := Tryz.underlying125
  a46 := Tryz.isAgg125
  z46 := Tryz.sizeOf125
  v46 := Tryz.zeroValue125
  t50 := Tryz.underlying129
  a50 := Tryz.isAgg129
  z50 := Tryz.sizeOf129
  v50 := Tryz.zeroValue129
  t53 := Tryz.underlying101
  a53 := Tryz.isAgg101
  z53 := Tryz.sizeOf101
  v53 := Tryz.zeroValue101
  t55 := Tryz.underlying80
  a55 := Tryz.isAgg80
  z55 := Tryz.sizeOf80
  v55 := Tryz.zeroValue80
  t66 := Tryz.underlying144
  a66 := Tryz.isAgg144
  z66 := Tryz.sizeOf144
  v66 := Tryz.zeroValue144
  t70 := Tryz.underlying148
  a70 := Tryz.isAgg148
  z70 := Tryz.sizeOf148
  v70 := Tryz.zeroValue148
  t76 := Tryz.underlying156
  a76 := Tryz.isAgg156
  z76 := Tryz.sizeOf156
  v76 := Tryz.zeroValue156
  t77 := Tryz.underlying116
  a77 := Tryz.isAgg116
  z77 := Tryz.sizeOf116
  v77 := Tryz.zeroValue116 }
end Go.Proofs
namespace Go.Proofs.YtaambeficfiacaaGreat
open Go.RowKit VM

/-! the model -/
abbrev Pr2 := ByteArray × ByteArray
def prC (p : Pr2) : List Value := [.string p.1, .string p.2]
theorem prC_len (p : Pr2) : (prC p).length = 2 := rfl
theorem insM_in {a : ByteArray} {L : List ByteArray} (h : Asc L) (ha : a ∈ L) : insM a L = L :=
  asc_unique (insM_asc h) h fun u => by rw [insM_mem]; exact ⟨fun q => q.elim (fun q => q ▸ ha) id, .inr⟩
theorem insM_new {a : ByteArray} : ∀ {L : List ByteArray}, a ∉ L → (insM a L).length = L.length + 1
  | [], _ => rfl
  | b :: l, h => by
    unfold insM
    split
    · rfl
    · split
      · rename_i e; subst e; exact absurd (List.mem_cons_self) h
      · rw [List.length_cons, insM_new (fun q => h (List.mem_cons_of_mem _ q)), List.length_cons]
theorem sortM_nodup : ∀ {l : List ByteArray}, (sortM l).length = l.length ↔ l.Nodup
  | [] => by simp [sortM]
  | a :: l => by
    have e : sortM (a :: l) = insM a (sortM l) := rfl
    have ih := sortM_nodup (l := l)
    have hl := sortM_len l
    rw [e, List.nodup_cons]
    by_cases ha : a ∈ l
    · rw [insM_in (sortM_asc l) (sortM_mem.2 ha), List.length_cons]
      exact ⟨fun q => by omega, fun q => absurd ha q.1⟩
    · rw [insM_new (fun q => ha (sortM_mem.1 q)), List.length_cons]
      exact ⟨fun q => ⟨ha, ih.1 (by omega)⟩, fun q => by rw [ih.2 q.2]⟩
theorem inn_perm {x : ByteArray} {zs ds : List Pr2} (h : ds.Perm zs) (hn : (zs.map Prod.fst).Nodup) : inn x ds = inn x zs := by
  unfold inn
  have hp : (ds.filter fun p => decide (p.1 = x)).Perm (zs.filter fun p => decide (p.1 = x)) := h.filter _
  have hone : ∀ {l : List Pr2}, (l.map Prod.fst).Nodup → (l.filter fun p => decide (p.1 = x)).length ≤ 1 := by
    intro l
    induction l with
    | nil => intro _; exact Nat.zero_le _
    | cons a l ih =>
      intro hnd
      rw [List.map_cons, List.nodup_cons] at hnd
      rw [List.filter_cons]
      split
      · rename_i hx
        have ha : a.1 = x := of_decide_eq_true hx
        have : l.filter (fun p => decide (p.1 = x)) = [] := List.filter_eq_nil_iff.2 fun p hp q => hnd.1 (by
          rw [ha, ← of_decide_eq_true q]; exact List.mem_map_of_mem hp)
        rw [this]; exact Nat.le_refl _
      · exact ih hnd.2
  have h1 := hone hn
  have h2 : (ds.filter fun p => decide (p.1 = x)) = (zs.filter fun p => decide (p.1 = x)) := by
    clear hone hn h
    generalize (zs.filter fun p => decide (p.1 = x)) = u at *
    generalize (ds.filter fun p => decide (p.1 = x)) = v at *
    cases u with
    | nil => exact List.Perm.eq_nil hp
    | cons a l =>
      cases l with
      | nil => exact List.perm_singleton.1 hp
      | cons b l => simp at h1
  rw [h2]
theorem mpL_self : ∀ {ds : List Pr2}, (ds.map Prod.fst).Nodup → mpL (ds.map Prod.fst) ds = ds.flatMap fun p => [p.1, p.2]
  | [], _ => rfl
  | p :: ds, h => by
    rw [List.map_cons, List.nodup_cons] at h
    have e : mpL (p.1 :: ds.map Prod.fst) (p :: ds) = inn p.1 (p :: ds) ++ mpL (ds.map Prod.fst) (p :: ds) := by unfold mpL; rw [List.flatMap_cons]
    rw [List.map_cons, e, mpL_cons (k := p.1) (v := p.2) h.1, mpL_self h.2, inn_cons, if_pos rfl, inn_none fun q hq e => h.1 (by rw [← e]; exact List.mem_map_of_mem hq), List.flatMap_cons]
    simp
/-- sorted pairs give the parts -/
theorem pairs_parts {zs ds : List Pr2} (h : ds.Perm zs) (hs : Asc (ds.map Prod.fst)) : sortM (zs.map Prod.fst) = ds.map Prod.fst ∧ mpL (sortM (zs.map Prod.fst)) zs = ds.flatMap fun p => [p.1, p.2] := by
  have hk := (sortM_eq (l := zs.map Prod.fst) hs fun u => (h.map Prod.fst).mem_iff).symm
  have hn : (zs.map Prod.fst).Nodup := (h.map Prod.fst).nodup_iff.1 (asc_nodup hs)
  refine ⟨hk, ?_⟩
  rw [hk, ← mpL_self (asc_nodup hs)]
  unfold mpL
  congr 1
  funext x
  exact (inn_perm h hn).symm
/-- the map of some keys and values, or the empty string -/
def mapP (ks vs : List ByteArray) : ByteArray := if ks.length = vs.length ∧ ks.all (valB 32) = true ∧ ks.Nodup then mkP 6 (mpL (sortM ks) (ks.zip vs)) else ⟨#[]⟩

/-! slices.SortFunc at pairs -/
abbrev VP := {p : Pr2 // valB 32 p.1 = true}
instance vpInh : Inhabited VP := ⟨⟨(⟨#[2, 0]⟩, ⟨#[]⟩), some_val⟩⟩
def encVP (x : VP) : List Value := prC x.1
def cfVP (x y : VP) : Int := cmpM x.1.1 y.1.1
theorem swoVP : Go.Sort.SWO (ltOf cfVP) where
  irrefl x := swoV.irrefl ⟨x.1.1, x.2⟩
  trans x y z h1 h2 := swoV.trans ⟨x.1.1, x.2⟩ ⟨y.1.1, y.2⟩ ⟨z.1.1, z.2⟩ h1 h2
  ntrans x y z h1 h2 := swoV.ntrans ⟨x.1.1, x.2⟩ ⟨y.1.1, y.2⟩ ⟨z.1.1, z.2⟩ h1 h2
set_option maxHeartbeats 1000000 in
theorem closureM (x y : VP) (W : World) : Calls Tryz.prog 121 #[.agg #[.string x.1.1, .string x.1.2], .agg #[.string y.1.1, .string y.1.2]] W fun e w' => e = .returned (.int .i64 (cfVP x y)) ∧ ∃ q os', w' = Go.Sort.grow (W.drewN q) os' := by
  obtain ⟨⟨x1, x2⟩, hx⟩ := x
  obtain ⟨⟨y1, y2⟩, hy⟩ := y
  have hcon := Lib.hid (fun W => cmpV_lays W ⟨x1, hx⟩ ⟨y1, hy⟩)
  show Calls _ _ #[.agg #[.string x1, .string x2], .agg #[.string y1, .string y2]] W fun e w' => e = .returned (.int .i64 (cmpM x1 y1)) ∧ _
  have hcf : cfV ⟨x1, hx⟩ ⟨y1, hy⟩ = cmpM x1 y1 := rfl
  rw [hcf] at hcon
  change Hid (∀ W, Calls _ _ #[.string x1, .string y1] W _) at hcon
  generalize cmpM x1 y1 = r at *
  clear hcf hx hy
  go_enter Tryz.func121, Tryz.ntmps121
  go_wp2_with fail
  refine (hcon.out _).mono ?_
  rintro e w' ⟨rfl, q, rfl⟩
  go_wp2_with fail
  go_ret
  exact ⟨rfl, q, _, by rw [Go.Sort.alloc_eq_grow, Go.Sort.alloc_eq_grow, Go.Sort.grow_grow]; rfl⟩

end Go.Proofs.YtaambeficfiacaaGreat
namespace Go.Proofs.YtaambeficfiacaaGreat
open Go.RowKit VM

/-! rows of cells of any size -/
theorem holdsZ {w : World} {g : Nat} {cur : Array Value} {e : TypeId} {vs : List Value} (hb : w.heap[g]? = some (.cells cur e (0, 0))) (ht : cur.toList.take vs.length = vs) : Go.Sort.Holds id w g 0 vs.toArray := by
  intro j hj
  have hj' : j < vs.length := by simpa using hj
  refine ⟨?_, by simp [World.frozen?, hb]⟩
  have h1 : (cur.toList.take vs.length)[j]? = vs[j]? := by rw [ht]
  rw [List.getElem?_take_of_lt hj'] at h1
  simp only [World.cell?, hb, Nat.zero_add]
  simp only [Option.isSome_none, Bool.false_eq_true, if_false]
  rw [← Array.getElem?_toList, h1, List.getElem?_eq_getElem hj', getElem!_pos _ j hj]
  simp
theorem heapZ {w : World} {g n : Nat} {os : Array Obj} {cur : Array Value} {e : TypeId} {fr : Nat × Nat} (d : Array Value) (hb : w.heap[g]? = some (.cells cur e fr)) :
    (Go.Sort.grow (Go.Sort.putRow id (Go.Sort.ahead w n) g 0 d) os).heap[g]? = some (.cells (Go.Sort.putCells id 0 d cur) e fr) := by
  have hg : g < w.heap.size := (Array.getElem?_eq_some_iff.1 hb).1
  rw [Go.Sort.heap_grow_old _ _ (by simpa using hg)]
  simp [Go.Sort.putRow, Go.Sort.mapBlock, Go.Sort.ahead, Array.getElem?_modify, hb, Go.Sort.onCells]
theorem grownZ {w : World} {g n : Nat} {os : Array Obj} (d : Array Value) : w.grownBy (Go.Sort.grow (Go.Sort.putRow id (Go.Sort.ahead w n) g 0 d) os) (some g) := by
  refine ⟨rfl, rfl, rfl, by simp, fun k hk hne => ?_⟩
  rw [Go.Sort.heap_grow_old _ _ (by simpa using hk)]
  have : g ≠ k := fun e => hne (by rw [e])
  simp [Go.Sort.putRow, Go.Sort.mapBlock, Go.Sort.ahead, Array.getElem?_modify, this]
theorem takeZ (cur : Array Value) (ts : List Value) (h : ts.length ≤ cur.size) : (Go.Sort.putCells id 0 ts.toArray cur).toList.take ts.length = ts := by
  apply List.ext_getElem?
  intro j
  by_cases hj : j < ts.length
  · rw [List.getElem?_take_of_lt hj, Array.getElem?_toList]
    simp [Go.Sort.putCells, hj, show j < cur.size by omega]
  · rw [List.getElem?_take_eq_none (by omega), List.getElem?_eq_none (by omega)]
theorem ownsZ {w : World} {base g cap n m z : Nat} {e : TypeId} {os : Array Obj} {cur : Array Value} {ts : List Value} (hl : ts.length = m * z) (hbase : base ≤ g) (hb : w.heap[g]? = some (.cells cur e (0, 0)))
    (h1 : m ≤ cap) (h2 : cap ≤ maxLen) (h3 : cur.size = cap * z) :
    (Go.Sort.grow (Go.Sort.putRow id (Go.Sort.ahead w n) g 0 ts.toArray) os).ownsRow base e z (.slice (some ⟨g, 0, none⟩) m cap) m ts :=
  ⟨hl, .inr ⟨g, cap, _, rfl, hbase, heapZ _ hb, h1, h2, by simp [Go.Sort.putCells, h3], by rw [← hl]; exact takeZ cur ts (by rw [hl, h3]; exact Nat.mul_le_mul_right _ h1)⟩⟩
theorem flatK_list {α : Type} [Inhabited α] (f : α → List Value) (k : Nat) (hk : 0 < k) (hf : ∀ x, (f x).length = k) (d : Array α) : Go.Sort.flatK f k d = (d.toList.flatMap f).toArray := by
  apply Array.toList_inj.1
  apply List.ext_getElem?
  intro t
  have hl : (d.toList.flatMap f).length = d.size * k := by rw [flat_len hf]; simp
  by_cases ht : t < d.size * k
  · have h1 : t / k < d.size := Nat.div_lt_of_lt_mul (by rw [Nat.mul_comm]; exact ht)
    have h2 : t % k < (f d[t / k]).length := by rw [hf]; exact Nat.mod_lt _ hk
    have e := flat_at hf d.toList (t / k) d[t / k] (by simp [h1]) (t % k) _ (List.getElem?_eq_getElem h2)
    rw [Nat.div_add_mod' t k] at e
    show _ = (d.toList.flatMap f)[t]?
    rw [e, Array.getElem?_toList]
    have h3 := Go.Sort.get_flatK f k d t ht
    have h4 : t < (Go.Sort.flatK f k d).size := by rw [Go.Sort.size_flatK]; exact ht
    rw [getElem!_pos (Go.Sort.flatK f k d) t h4, getElem!_pos d (t / k) h1, getElem!_pos (f d[t / k]) (t % k) h2] at h3
    rw [Array.getElem?_eq_getElem h4, h3]
  · rw [List.getElem?_eq_none (by rw [Array.length_toList, Go.Sort.size_flatK]; omega), List.getElem?_eq_none (by show (d.toList.flatMap f).length ≤ t; omega)]

/-! SortFunc at pairs -/
theorem attach_prs {zs : List Pr2} (h : ∀ p ∈ zs, valB 32 p.1 = true) : ∃ d : List VP, d.map Subtype.val = zs := by
  induction zs with
  | nil => exact ⟨[], rfl⟩
  | cons a l ih =>
    obtain ⟨d, hd⟩ := ih fun s hs => h s (List.mem_cons_of_mem _ hs)
    exact ⟨⟨a, h a (by simp)⟩ :: d, by rw [List.map_cons, hd]⟩
theorem flat_prs (d : List VP) : d.flatMap encVP = (d.map Subtype.val).flatMap prC := by
  rw [List.flatMap_map]; rfl
theorem prs_len (zs : List Pr2) : (zs.flatMap prC).length = zs.length * 2 := flat_len prC_len zs
theorem sortP_any (g cap p base : Nat) (zs : List Pr2) (w : World) (hp : p ≤ 1048576) (hv : ∀ q ∈ zs, valB 32 q.1 = true) (hO : w.ownsRow base 109 2 (.slice (some ⟨g, 0, none⟩) p cap) p (zs.flatMap prC)) :
    Calls Tryz.prog 120 #[.slice (some ⟨g, 0, none⟩) p cap, .func (.func 121) #[] #[]] w fun e w' => e = .returned (.tuple #[]) ∧ ∃ ds : List Pr2, w'.ownsRow base 109 2 (.slice (some ⟨g, 0, none⟩) p cap) p (ds.flatMap prC) ∧ ds.Perm zs ∧ (ds.Pairwise fun a b => cmpM a.1 b.1 ≤ 0) ∧ w.grownBy w' (some g) := by
  have hlen : zs.length = p := by have := hO.1; rw [prs_len] at this; omega
  rcases hO.2 with ⟨hq, _⟩ | ⟨g', cap', cur, hq, hb, hg, h1, h2, h3, h4⟩
  · cases hq
  obtain ⟨rfl, rfl⟩ : g = g' ∧ cap = cap' := by injection hq with q1 q2 q3; injection q1 with q1; injection q1 with q1; exact ⟨q1, q3⟩
  obtain ⟨d, hd⟩ := attach_prs hv
  have hdl : d.length = p := by rw [← hlen, ← hd, List.length_map]
  have hfl : Go.Sort.flatK encVP 2 d.toArray = (zs.flatMap prC).toArray := by
    rw [flatK_list encVP 2 (by decide) (fun _ => rfl), ← hd, ← flat_prs]
  have hH : Go.Sort.HoldsK encVP 2 w g 0 d.toArray := by
    unfold Go.Sort.HoldsK
    rw [hfl]
    exact holdsZ hg (by rw [prs_len, hlen]; exact h4)
  have hlt : g < w.heap.size := (Array.getElem?_eq_some_iff.1 hg).1
  have hC := AnyQ.slices_SortFunc { Tryz.sortVM with } 2 (fun w => Tryz.isAgg109 w) (fun w => Tryz.sizeOf109 w) encVP (fun _ => rfl) (fun x v hv => two_str x.1.1 x.1.2 v hv) cfVP swoVP 121 #[] g 0 cap d.toArray w (enters_of Tryz.func121 (by kernel_rfl) rfl)
    (fun m os dk _ x y => closureM x y _) hH hlt (by rw [List.size_toArray]; omega)
  rw [List.size_toArray, hdl] at hC
  refine hC.mono ?_
  rintro e w' ⟨rfl, d', n, os, hperm, hsort, rfl⟩
  obtain ⟨hp1, -, hp3⟩ := hperm
  have hds : d'.size = p := by rw [hp1, List.size_toArray, hdl]
  have hdp : d'.toList.Perm d := by
    have e1 : d'.extract 0 p = d' := by rw [← hds]; simp
    have e2 : d.toArray.extract 0 p = d.toArray := by rw [← hdl]; simp
    rw [e1, e2] at hp3
    simpa using hp3
  have hfl2 : Go.Sort.flatK encVP 2 d' = ((d'.toList.map Subtype.val).flatMap prC).toArray := by
    rw [flatK_list encVP 2 (by decide) (fun _ => rfl), ← flat_prs]
  have e3 : Go.Proofs.sortWorldK encVP 2 w g 0 n d' os = Go.Sort.grow (Go.Sort.putRow id (Go.Sort.ahead w n) g 0 ((d'.toList.map Subtype.val).flatMap prC).toArray) os := by
    unfold Go.Proofs.sortWorldK Go.Sort.putRowK
    rw [hfl2]
  refine ⟨rfl, d'.toList.map Subtype.val, ?_, ?_, ?_, ?_⟩
  · rw [e3]
    exact ownsZ (by rw [prs_len, List.length_map, Array.length_toList, hds]) hb hg h1 h2 h3
  · have := hdp.map Subtype.val
    rwa [hd] at this
  · rw [List.pairwise_map, List.pairwise_iff_getElem]
    intro i j hi hj hij
    have hjs : j < d'.size := by simpa using hj
    have his : i < d'.size := by simpa using hi
    have hq := hsort i j (Nat.zero_le _) hij (by omega)
    rw [getElem!_pos d' i his, getElem!_pos d' j hjs] at hq
    have hq2 : ¬ cmpM d'[j].1.1 d'[i].1.1 < 0 := of_decide_eq_false hq
    have := cmpM_anti d'[j].1.1 d'[i].1.1
    show cmpM (d'.toList[i]).1.1 (d'.toList[j]).1.1 ≤ 0
    rw [Array.getElem_toList, Array.getElem_toList]
    omega
  · rw [e3]
    exact grownZ _

/-! allValid -/
set_option maxRecDepth 100000 in
set_option maxHeartbeats 3200000 in
theorem pall_any (ps : List ByteArray) (A : Option Addr) (n c : Nat) (w : World) (hn : n = ps.length) (hn1 : n ≤ 1048576) (hs : ∀ s ∈ ps, s.size ≤ 281474976710656) (hr : InC w A (ps.map Value.string)) :
    Calls Tryz.prog 119 #[.slice A n c] w fun e w' => e = .returned (.bool (ps.all (valB 32))) ∧ Below w.heap.size w w' := by
  have HS := Lib.hid hs
  have HR := hide hr
  have HN := Lib.hid hn
  clear hs hr hn
  go_enter Tryz.func119, Tryz.ntmps119
  go_wp2_with fail
  go_loopw [7] (fun iv wr => ∃ j : Nat, iv = .int .i64 j ∧ j ≤ n ∧ Hid ((ps.take j).all (valB 32) = true) ∧ Hid (Below w.heap.size w wr)) (fun iv _ => n - (intOf iv).toNat)
  case atStart => exact ⟨0, rfl, by omega, Lib.hid (by rw [List.take_zero]; rfl), Below.refl _ _⟩
  case round =>
    obtain ⟨j, rfl, hj, hX, hB⟩ := hrel
    by_cases hil : j < n
    · obtain ⟨u, hu⟩ : ∃ u, ps[j]? = some u := ⟨ps[j]'(by have := HN.out; omega), List.getElem?_eq_getElem _⟩
      have hus := HS.out u (List.mem_of_getElem? hu)
      have HMU : Hid (u ∈ ps) := Lib.hid (List.mem_of_getElem? hu)
      have HUT : Hid (ps.take (j + 1) = ps.take j ++ [u]) := Lib.hid (by rw [List.take_add_one, hu]; rfl)
      obtain ⟨b5, o5, hA1, hb5, hc5⟩ := at1s ((unhide HR).below hB.out) (i := j) (u := .string u) (by rw [List.getElem?_map, hu]; rfl)
      subst hA1
      have HV := Lib.hid (fun w => valid_any u hus w)
      clear hu
      generalize wr = w2 at *
      go_wp2_with fail
      refine (HV.out _).mono ?_
      rintro e w3 ⟨rfl, hb3⟩
      have HB3 := hide (hB.out.trans (hb3.mono hB.out.size))
      clear hb3 hB hc5 hb5 HV
      cases hz : valB 32 u with
      | true =>
        have HX2 : Hid ((ps.take (j + 1)).all (valB 32) = true) := Lib.hid (by rw [HUT.out, List.all_append, hX.out]; simp [hz])
        clear hz
        go_wp2_with fail
        go_roundw
        case rel => exact ⟨j + 1, by go_num, by omega, HX2.out, unhide HB3⟩
        case measure => simp [intOf]; omega
      | false =>
        have HT : Hid (ps.all (valB 32) = false) := Lib.hid (by
          rw [List.all_eq_false]; exact ⟨u, HMU.out, by rw [hz]; simp⟩)
        clear hz
        go_wp2_with fail
        go_ret
        exact ⟨by rw [HT.out]; rfl, unhide HB3⟩
    · have HT : Hid (ps.all (valB 32) = true) := Lib.hid (by
        have h1 := hX.out
        rwa [List.take_of_length_le (by have := HN.out; omega)] at h1)
      go_wp2_with fail
      go_ret
      exact ⟨by rw [HT.out]; rfl, hB.out⟩

end Go.Proofs.YtaambeficfiacaaGreat
namespace Go.Proofs.YtaambeficfiacaaGreat
open Go.RowKit VM

theorem pair_info : (Tryz.prog.info? 109).map (fun i => (i.zero, i.size, i.bytes)) = some (some (.agg #[.string ⟨#[]⟩, .string ⟨#[]⟩]), 2, 32) := by kernel_rfl
/-- the row of pairs, j of them set -/
def rowM (zs : List Pr2) (j : Nat) : List Value := (zs.take j).flatMap prC ++ List.replicate ((zs.length - j) * 2) (.string ⟨#[]⟩)
theorem rowM_zero (zs : List Pr2) : rowM zs 0 = List.replicate (zs.length * 2) (.string ⟨#[]⟩) := by unfold rowM; simp
theorem rowM_all (zs : List Pr2) : rowM zs zs.length = zs.flatMap prC := by
  unfold rowM
  rw [List.take_length, Nat.sub_self, Nat.zero_mul, List.replicate_zero, List.append_nil]
theorem rowM_len (zs : List Pr2) (j : Nat) (h : j ≤ zs.length) : (rowM zs j).length = zs.length * 2 := by
  unfold rowM
  rw [List.length_append, prs_len, List.length_take, List.length_replicate]; omega
theorem rowM_step {zs : List Pr2} {j : Nat} {k v : ByteArray} (h : zs[j]? = some (k, v)) : ((rowM zs j).set (j * 2) (.string k)).set (j * 2 + 1) (.string v) = rowM zs (j + 1) := by
  have hj : j < zs.length := (List.getElem?_eq_some_iff.1 h).1
  have hl : ((zs.take j).flatMap prC).length = j * 2 := by rw [prs_len, List.length_take]; omega
  unfold rowM
  rw [List.set_append_right _ _ (by omega), hl, Nat.sub_self, show (zs.length - j) * 2 = (zs.length - (j + 1)) * 2 + 1 + 1 by omega, List.replicate_succ, List.replicate_succ, List.set_cons_zero, List.set_append_right _ _ (by omega), hl, show j * 2 + 1 - j * 2 = 1 by omega, List.take_add_one, h, List.flatMap_append, List.append_assoc]
  rfl
theorem made_two (n : Nat) : (madeCells #[Value.string ⟨#[]⟩, Value.string ⟨#[]⟩] n).toList = List.replicate n (.string ⟨#[]⟩) := by
  rw [List.eq_replicate_iff]
  refine ⟨by rw [Array.length_toList, size_madeCells], fun b hb => ?_⟩
  unfold madeCells at hb
  rw [Array.toList_map] at hb
  obtain ⟨x, _, rfl⟩ := List.mem_map.1 hb
  show (#[Value.string ⟨#[]⟩, Value.string ⟨#[]⟩])[x % 2]! = _
  rcases Nat.mod_two_eq_zero_or_one x with e | e
  · rw [e]; rfl
  · rw [e]; rfl
theorem asc_snoc {l : List ByteArray} {x y : ByteArray} (h : Asc (l ++ [x])) (hxy : cmpM x y < 0) : Asc (l ++ [x] ++ [y]) := by
  refine List.pairwise_append.2 ⟨h, List.pairwise_singleton _ _, fun a ha b hb => ?_⟩
  rw [List.mem_singleton.1 hb]
  rcases List.mem_append.1 ha with ha | ha
  · exact cmpM_lt_le ((List.pairwise_append.1 h).2.2 a ha x (List.mem_singleton.2 rfl)) (by omega)
  · rw [List.mem_singleton.1 ha]; exact hxy
set_option linter.unusedSimpArgs false in
set_option maxRecDepth 100000 in
set_option maxHeartbeats 6400000 in
theorem pmap_any (ks vs : List ByteArray) (A B : Option Addr) (n m ca cb : Nat) (w : World) (hn : n = ks.length) (hm : m = vs.length) (hn1 : n ≤ 1048576) (hm1 : m ≤ 1048576) (hn3 : ks.all (valB 32) = true → n ≤ 524288) (hks : ∀ s ∈ ks, s.size ≤ 281474976710656) (hvs : ∀ s ∈ vs, s.size ≤ 281474976710656)
    (hr : InC w A (ks.map Value.string)) (hr2 : InC w B (vs.map Value.string)) :
    Calls Tryz.prog 98 #[.slice A n ca, .slice B m cb] w fun e w' => e = .returned (.string (mapP ks vs)) ∧ Below w.heap.size w w' := by
  have HA1 := Lib.hid (fun w hr => pall_any ks A n ca w hn (by omega) hks hr)
  have HKS := Lib.hid hks
  have HVS := Lib.hid hvs
  have HR := hide hr
  have HR2 := hide hr2
  have HN := Lib.hid hn
  have HMN := Lib.hid hm
  clear hr hr2 hn hm hks hvs
  by_cases hnm : n = m
  rotate_left 1
  · clear hn3
    have HM : Hid (mapP ks vs = ⟨#[]⟩) := Lib.hid (by unfold mapP; rw [if_neg (fun q => hnm (by rw [HN.out, HMN.out]; exact q.1))])
    have g : ((n : Int) == (m : Int)) = false := beq_eq_false_iff_ne.2 (by omega)
    go_enter Tryz.func98, Tryz.ntmps98
    go_wp2_with fail
    go_ret
    exact ⟨by rw [HM.out]; rfl, Below.refl _ _⟩
  subst hnm
  cases hz1 : ks.all (valB 32) with
  | false =>
    have HM : Hid (mapP ks vs = ⟨#[]⟩) := Lib.hid (by unfold mapP; rw [if_neg (fun q => by have := q.2.1; rw [hz1] at this; cases this)])
    rw [hz1] at HA1
    clear hz1 hn3
    go_enter Tryz.func98, Tryz.ntmps98
    go_wp2_with fail
    refine (HA1.out _ (unhide HR)).mono ?_
    rintro e w3 ⟨rfl, hb3⟩
    have HB3 := hide hb3
    clear hb3
    go_wp2_with fail
    go_ret
    exact ⟨by rw [HM.out]; rfl, unhide HB3⟩
  | true =>
  rw [hz1] at HA1
  have HZ1 := Lib.hid hz1
  replace hn1 : n ≤ 524288 := hn3 hz1
  clear hz1 hn3
  have HMM : Hid (mapP ks vs = if ks.Nodup then mkP 6 (mpL (sortM ks) (ks.zip vs)) else ⟨#[]⟩) := Lib.hid (by
    unfold mapP
    have h1 : ks.length = vs.length := by rw [← HN.out, ← HMN.out]
    by_cases h : ks.Nodup
    · rw [if_pos ⟨h1, HZ1.out, h⟩, if_pos h]
    · rw [if_neg (fun q => h q.2.2), if_neg h])
  have HZL : Hid ((ks.zip vs).length = n) := Lib.hid (by rw [List.length_zip, ← HN.out, ← HMN.out, Nat.min_self])
  have HZF : Hid ((ks.zip vs).map Prod.fst = ks) := Lib.hid (List.map_fst_zip (by rw [← HN.out, ← HMN.out]; exact Nat.le_refl _))
  have HZA : Hid (∀ j k v, ks[j]? = some k → vs[j]? = some v → (ks.zip vs)[j]? = some (k, v)) := Lib.hid fun j k v h1 h2 => by rw [List.getElem?_zip_eq_some]; exact ⟨h1, h2⟩
  have HZV : Hid (∀ p ∈ ks.zip vs, p.1 ∈ ks ∧ p.2 ∈ vs) := Lib.hid fun p hp => List.of_mem_zip (a := p.1) (b := p.2) hp
  generalize ks.zip vs = zs at *
  obtain ⟨i0, hi0, hiz0, hiz1, hiz2⟩ := info_parts val_info
  obtain ⟨j0, hj0, hjz0, hjz1, hjz2⟩ := info_parts pair_info
  go_enter Tryz.func98, Tryz.ntmps98
  go_wp2_with fail
  refine (HA1.out _ (unhide HR)).mono ?_
  rintro e w3 ⟨rfl, hb3⟩
  have HB3 := hide hb3
  have HR3 := hide ((unhide HR).below hb3)
  have HS3 := hide ((unhide HR2).below hb3)
  clear hb3
  obtain ⟨w4, hmk, hO4, hG4⟩ := run_makeSlice_full (P := Tryz.prog) w3 w.heap.size 108 109 j0 (.agg #[.string ⟨#[]⟩, .string ⟨#[]⟩]) 2 Tryz.underlying108 hj0 hjz0 hjz1 .i64 .i64 n (by omega) (by rw [hjz2]; omega) (by unfold maxLen; omega) (unhide HB3).size
  have HO4 : Hid (w4.ownsRow w.heap.size 109 2 (.slice (some ⟨w3.heap.size, 0, none⟩) n n) n (rowM zs 0)) := hide (by
    have e : (madeCells (Value.agg #[.string ⟨#[]⟩, .string ⟨#[]⟩]).cells (n * 2)).toList = rowM zs 0 := by rw [rowM_zero, HZL.out]; exact made_two _
    rw [e] at hO4
    exact hO4)
  have HB4 := hide (below_row (v := .slice none 0 0) (unhide HB3) hG4 (fun j q => by simp [Value.ownBlock] at q))
  have HR4 := hide ((unhide HR).below (unhide HB4))
  have HS4 := hide ((unhide HR2).below (unhide HB4))
  generalize w3.heap.size = g at *
  clear hO4 hG4 HB3 HR3 HS3
  go_wp2_with fail
  go_loopw [26] (fun iv wr => ∃ (j : Nat), iv = .int .i64 j ∧ j ≤ n ∧ Hid (wr.ownsRow w.heap.size 109 2 (.slice (some ⟨g, 0, none⟩) n n) n (rowM zs j)) ∧ Hid (Below w.heap.size w wr)) (fun iv _ => n - (intOf iv).toNat)
  case atStart => exact ⟨0, rfl, by omega, unhide HO4, unhide HB4⟩
  case round =>
    obtain ⟨j, rfl, hj, hO, hB⟩ := hrel
    clear HO4 HB4 hmk HR4 HS4
    by_cases hjn : j < n
    · have gj : decide ((j : Int) < (n : Int)) = true := decide_eq_true (by omega)
      obtain ⟨k, hk⟩ : ∃ k, ks[j]? = some k := ⟨ks[j]'(by have := HN.out; omega), List.getElem?_eq_getElem _⟩
      obtain ⟨v, hv⟩ : ∃ v, vs[j]? = some v := ⟨vs[j]'(by have := HMN.out; omega), List.getElem?_eq_getElem _⟩
      have HST := Lib.hid (rowM_step (HZA.out j k v hk hv))
      obtain ⟨b1, o1, hA1, hb1, hc1⟩ := at1s (unhide HR) (i := j) (u := .string k) (by rw [List.getElem?_map, hk]; rfl)
      obtain ⟨b2, o2, hA2, hb2, hc2⟩ := at1s (unhide HR2) (i := j) (u := .string v) (by rw [List.getElem?_map, hv]; rfl)
      subst hA1 hA2
      have k1 : wr.cell? ⟨b1, o1 + j, none⟩ = some (.string k) := (hB.out.cell (p := ⟨b1, o1 + j, none⟩) hb1).trans hc1
      have k2 : wr.cell? ⟨b2, o2 + j, none⟩ = some (.string v) := (hB.out.cell (p := ⟨b2, o2 + j, none⟩) hb2).trans hc2
      obtain ⟨cur, hcur⟩ : ∃ cur, Blk wr g 109 cur := by
        rcases hO.out.2 with ⟨q, _⟩ | ⟨g', cap', cur, q, _, hh, _⟩
        · cases q
        · injection q with q1
          injection q1 with q1
          injection q1 with q1
          subst q1
          exact ⟨cur, hh⟩
      have hwg : w.heap.size ≤ g := (hO.out.lt g rfl).1
      have f1 := hcur.frozen (j * 2)
      have f2 := hcur.frozen (j * 2 + 1)
      have hcel : ∀ i, i < n * 2 → ∃ u, wr.cell? ⟨g, i, none⟩ = some u := fun i hi => ⟨_, (World.ownsRow.cellAt hO.out i hi).trans (List.getElem?_eq_getElem (by rw [rowM_len _ _ (by have := HZL.out; omega)]; have := HZL.out; omega))⟩
      obtain ⟨u1, c1⟩ := hcel (j * 2) (by omega)
      obtain ⟨u2, c2⟩ := hcel (j * 2 + 1) (by omega)
      have hst := World.ownsRow.stored (World.ownsRow.stored hO.out (j * 2) (.string k)).1 (j * 2 + 1) (.string v)
      have HO6 : Hid (((wr.setCell ⟨g, j * 2, none⟩ (.string k)).setCell ⟨g, j * 2 + 1, none⟩ (.string v)).ownsRow w.heap.size 109 2 (.slice (some ⟨g, 0, none⟩) n n) n (rowM zs (j + 1))) := hide (by
        have := hst.1
        rw [HST.out] at this
        exact this)
      have HB6 : Hid (Below w.heap.size w ((wr.setCell ⟨g, j * 2, none⟩ (.string k)).setCell ⟨g, j * 2 + 1, none⟩ (.string v))) := hide ((hB.out.setCell hwg _).setCell hwg _)
      clear hst hcur hk hv hc1 hc2 hb1 hb2 hcel HST
      go_wp2_with fail
      clear f1 f2 c1 c2 k1 k2
      go_roundw
      case rel => exact ⟨j + 1, by go_num, by omega, unhide HO6, unhide HB6⟩
      case measure => simp [intOf]; omega
    · obtain rfl : j = n := by omega
      have HO4 : Hid (wr.ownsRow w.heap.size 109 2 (.slice (some ⟨g, 0, none⟩) j j) j (zs.flatMap prC)) := hide (by
        have := hO.out
        rw [show rowM zs j = zs.flatMap prC from by rw [← rowM_all, HZL.out]] at this
        exact this)
      have hwg : w.heap.size ≤ g := (hO.out.lt g rfl).1
      have HB4 := hide hB.out
      clear hO hB
      generalize wr = w4 at *
      go_wp2_with fail
      refine (sortP_any g j j w.heap.size zs w4 (by omega) (fun q hq => List.all_eq_true.1 HZ1.out _ (HZV.out q hq).1) (unhide HO4)).mono ?_
      rintro e w5 ⟨rfl, ds, hO5, hpm, hsr, hg5⟩
      have HB5 := hide (below_row (v := .slice (some ⟨g, 0, none⟩) j j) (unhide HB4) hg5 (fun q hq => by simp [Value.ownBlock] at hq; omega))
      have HO5 := hide hO5
      have HPM := Lib.hid hpm
      have HSR := Lib.hid hsr
      have HDL : Hid (ds.length = j) := Lib.hid (by rw [hpm.length_eq]; exact HZL.out)
      clear hO5 hpm hsr hg5 HO4 HB4
      have hcast : ((2 * j : Nat) : Int) = 2 * (j : Int) := by push_cast; rfl
      obtain ⟨w6, hmk, hO6, hG6⟩ := run_makeSlice_owned (P := Tryz.prog) w5 w.heap.size 33 22 i0 (.string ⟨#[]⟩) 1 Tryz.underlying33 hi0 hiz0 hiz1 .i64 .i64 (2 * j) (by omega) (by rw [hiz2]; omega) (by unfold maxLen; omega) (unhide HB5).size
      rw [hcast] at hmk
      have HP6 := hide hO6
      have HO6 := hide (owns_other (unhide HO5) hG6 (fun k hk e => by cases e))
      have HB6 := hide (below_row (v := .slice none 0 0) (unhide HB5) hG6 (fun j q => by simp [Value.ownBlock] at q))
      generalize w5.heap.size = g2 at *
      clear hO6 hG6 hcast HO5 HB5
      go_wp2_with fail
      clear hmk
      go_loopw [8, 49] (fun lv iv wr => ∃ (i q : Nat), iv = .int .i64 i ∧ i ≤ j ∧ q ≤ 1048576 ∧ Hid (q = 2 * i) ∧ Hid (Asc ((ds.take i).map Prod.fst)) ∧ Hid (wr.ownsRow w.heap.size 22 1 lv q ((ds.take i).flatMap prC)) ∧ Hid (wr.ownsRow w.heap.size 109 2 (.slice (some ⟨g, 0, none⟩) j j) j (ds.flatMap prC)) ∧ Hid (Below w.heap.size w wr)) (fun _ iv _ => j - (intOf iv).toNat)
      case atStart => exact ⟨0, 0, rfl, by omega, by omega, rfl, List.Pairwise.nil, unhide HP6, unhide HO6, unhide HB6⟩
      case round =>
        obtain ⟨i, q, rfl, hi, hq, hqi, hA, hP, hO, hB⟩ := hrel
        obtain ⟨A7, c7, rfl⟩ := owns_form hP.out
        clear HP6 HO6 HB6
        by_cases hij : i < j
        · obtain ⟨⟨k, v⟩, hkv⟩ : ∃ p, ds[i]? = some p := ⟨ds[i]'(by have := HDL.out; omega), List.getElem?_eq_getElem _⟩
          have gi : decide ((i : Int) < (j : Int)) = true := decide_eq_true (by omega)
          have HKV := Lib.hid hkv
          have HIN := hide (InC.own hO.out)
          obtain ⟨b0, o0, hb0, hlt0, hcel⟩ := InC.elem (unhide HIN) prC_len hkv (by decide)
          injection hb0 with hb0
          injection hb0 with hb0 ho0
          subst hb0 ho0
          have c0 : wr.cell? ⟨g, i * 2, none⟩ = some (.string k) := by have := hcel 0 _ rfl; rwa [Nat.zero_add, Nat.add_zero] at this
          have c1 : wr.cell? ⟨g, i * 2 + 1, none⟩ = some (.string v) := by have := hcel 1 _ rfl; rwa [Nat.zero_add] at this
          clear hcel hkv
          have HP1 := hide (hP.out.alloc (.cells #[.string k, .string v] 109))
          have HO1 := hide (hO.out.alloc (.cells #[.string k, .string v] 109))
          have HB1 := hide (hB.out.alloc hB.out.size (.cells #[.string k, .string v] 109))
          have HN1 := hide (Blk.new wr 109 #[.string k, .string v])
          have HPG : Hid (g ≠ wr.heap.size) := Lib.hid (by have := (hO.out.lt g rfl).2; omega)
          clear hP hO hB HIN hlt0
          by_cases hie : i = 0
          · subst hie
            have HA2 : Hid (Asc ((ds.take (0 + 1)).map Prod.fst)) := Lib.hid (by rw [List.take_add_one, HKV.out]; exact List.pairwise_singleton _ _)
            go_wp2_with fail
            generalize wr.alloc (.cells #[.string k, .string v] 109) = w7 at *
            generalize wr.heap.size = nb at *
            have d0 := (unhide HN1).cell 0
            have d1 := (unhide HN1).cell 1
            clear c0 c1
            go_quiet (fail)
            have e0 : (w7.drewN nq).cell? ⟨nb, 0, none⟩ = some (.string k) := d0
            have e1 : (w7.drewN nq).cell? ⟨nb, 1, none⟩ = some (.string v) := d1
            have HP8 : Hid ((w7.drewN nq).ownsRow w.heap.size 22 1 (.slice A7 q c7) q ((ds.take 0).flatMap prC)) := HP1
            have HO8 : Hid ((w7.drewN nq).ownsRow w.heap.size 109 2 (.slice (some ⟨g, 0, none⟩) j j) j (ds.flatMap prC)) := HO1
            have HB8 := hide (below_drewN (unhide HB1) nq)
            generalize w7.drewN nq = w8 at *
            clear HP1 HO1 HB1 HN1
            have HS9 : Hid ((ds.take (0 + 1)).flatMap prC = (ds.take 0).flatMap prC ++ [Value.string k, .string v]) := Lib.hid (by rw [List.take_add_one, HKV.out, List.flatMap_append]; rfl)
            have HP9 := hide ((unhide HP8).alloc (.cells #[.string k, .string v] 22))
            have HO9 := hide ((unhide HO8).alloc (.cells #[.string k, .string v] 22))
            have HB9 := hide ((unhide HB8).alloc (unhide HB8).size (.cells #[.string k, .string v] 22))
            have HN9 := hide (new_in w8 22 #[.string k, .string v])
            have HSEP := Lib.hid (own_own_ne (unhide HO9) (unhide HP9) (by decide))
            have hqq : q + 2 ≤ 1048576 := by have := hqi.out; omega
            go_wp2_with (at_builtin; refine wpList_app _ rfl _ _ 33 rfl w.heap.size 22 i0 _ 1 16 Tryz.underlying33 hi0 hiz0 hiz1 hiz2 rfl (by decide) (.slice A7 q c7) q ((ds.take 0).flatMap prC) rfl (unhide HP9) (some ⟨w8.heap.size, 0, none⟩) 2 2 [.string k, .string v] rfl rfl (unhide HN9) (two_str k v) (by unfold maxLen; omega) (by omega) (unhide HB9).size ?_; intro v10 w10 hown10 hgrow10 _)
            have HB10 := hide (below_app (unhide HB9) (unhide HP9) hgrow10)
            have HO10 := hide (owns_other (unhide HO9) hgrow10 (fun k hk e => HSEP.out k hk e))
            have HP10 : Hid (w10.ownsRow w.heap.size 22 1 v10 (q + 2) ((ds.take (0 + 1)).flatMap prC)) := hide (by rw [HS9.out]; exact hown10)
            clear hown10 hgrow10 HB9 HP9 HO9 HN9 d0 d1
            go_wp2_with fail
            go_roundw
            case rel => exact ⟨0 + 1, q + 2, by go_num, by omega, by omega, Lib.hid (by have := hqi.out; omega), HA2.out, unhide HP10, unhide HO10, unhide HB10⟩
            case measure => simp [intOf]; omega
          · obtain ⟨r, rfl⟩ : ∃ r, i = r + 1 := ⟨i - 1, by omega⟩
            obtain ⟨⟨k2, v2⟩, hk2⟩ : ∃ p, ds[r]? = some p := ⟨ds[r]'(by have := HDL.out; omega), List.getElem?_eq_getElem _⟩
            have HK2 := Lib.hid hk2
            obtain ⟨bz, oz, hbz, _, hcel⟩ := InC.elem (unhide (hide (InC.own (unhide HO1)))) prC_len hk2 (by decide)
            injection hbz with hbz
            injection hbz with hbz hoz
            subst hbz hoz
            have m0 : (wr.alloc (.cells #[.string k, .string v] 109)).cell? ⟨g, r * 2, none⟩ = some (.string k2) := by have := hcel 0 _ rfl; rwa [Nat.zero_add, Nat.add_zero] at this
            have HLE : Hid (cmpM k2 k ≤ 0) := Lib.hid (by
              have h1 := HSR.out
              rw [List.pairwise_iff_getElem] at h1
              obtain ⟨q1, q2⟩ := List.getElem?_eq_some_iff.1 hk2
              obtain ⟨q3, q4⟩ := List.getElem?_eq_some_iff.1 HKV.out
              have := h1 r (r + 1) q1 q3 (by omega)
              rw [q2, q4] at this
              exact this)
            clear hcel hk2
            have ri : IntKind.i64.wrap (r : Int) = (r : Int) := IntWalk.i64_in _ (by omega)
            have rw1 : ((r : Int) + 1 - 1) = (r : Int) := by omega
            have pr : (0 : Int) ≤ (r : Int) := by omega
            have pr2 : (r : Int) < (j : Int) := by omega
            have pr3 : ((r : Int)).toNat = r := by omega
            have pg : decide ((0 : Int) < (r : Int) + 1) = true := decide_eq_true (by omega)
            by_cases hkk : k = k2
            · subst hkk
              have hee : (k.toList == k.toList) = true := beq_self_eq_true _
              have HM : Hid (mapP ks vs = ⟨#[]⟩) := Lib.hid (by
                rw [HMM.out, if_neg]
                intro hnd
                rw [← HZF.out] at hnd
                have h2 := (HPM.out.map Prod.fst).nodup_iff.2 hnd
                obtain ⟨q1, q2⟩ := List.getElem?_eq_some_iff.1 HK2.out
                obtain ⟨q3, q4⟩ := List.getElem?_eq_some_iff.1 HKV.out
                have h3 := List.pairwise_iff_getElem.1 h2 r (r + 1) (by rw [List.length_map]; exact q1) (by rw [List.length_map]; exact q3) (by omega)
                rw [List.getElem_map, List.getElem_map, q2, q4] at h3
                exact h3 rfl)
              clear HLE
              go_wp2_with fail
              have d0 := (unhide HN1).cell 0
              have d1 := (unhide HN1).cell 1
              clear c0 c1
              generalize hw7 : wr.alloc (.cells #[.string k, .string v] 109) = w7 at *
              generalize hnb : wr.heap.size = nb at *
              go_quiet (fail)
              have e0 : (w7.drewN nq).cell? ⟨nb, 0, none⟩ = some (.string k) := d0
              have e1 : (w7.drewN nq).cell? ⟨nb, 1, none⟩ = some (.string v) := d1
              have HP8 : Hid ((w7.drewN nq).ownsRow w.heap.size 22 1 (.slice A7 q c7) q ((ds.take (r + 1)).flatMap prC)) := HP1
              have HO8 : Hid ((w7.drewN nq).ownsRow w.heap.size 109 2 (.slice (some ⟨g, 0, none⟩) j j) j (ds.flatMap prC)) := HO1
              have HB8 := hide (below_drewN (unhide HB1) nq)
              generalize w7.drewN nq = w8 at *
              clear HP1 HO1 HB1 HN1 m0
              go_wp2_with fail
              go_ret
              exact ⟨by rw [HM.out]; rfl, unhide HB8⟩
            · have hee : (k.toList == k2.toList) = false := ne_list hkk
              have HA2 : Hid (Asc ((ds.take (r + 1 + 1)).map Prod.fst)) := Lib.hid (by
                have h1 := hA.out
                have hlt : cmpM k2 k < 0 := by
                  have h2 := HLE.out
                  have h3 : cmpM k2 k ≠ 0 := fun z => hkk ((cmpM_zero _ _).1 z).symm
                  omega
                rw [List.take_add_one, HKV.out, List.map_append]
                rw [List.take_add_one, HK2.out, List.map_append] at h1 ⊢
                exact asc_snoc h1 hlt)
              clear HLE hkk
              go_wp2_with fail
              have d0 := (unhide HN1).cell 0
              have d1 := (unhide HN1).cell 1
              clear c0 c1
              generalize hw7 : wr.alloc (.cells #[.string k, .string v] 109) = w7 at *
              generalize hnb : wr.heap.size = nb at *
              go_quiet (fail)
              have e0 : (w7.drewN nq).cell? ⟨nb, 0, none⟩ = some (.string k) := d0
              have e1 : (w7.drewN nq).cell? ⟨nb, 1, none⟩ = some (.string v) := d1
              have HP8 : Hid ((w7.drewN nq).ownsRow w.heap.size 22 1 (.slice A7 q c7) q ((ds.take (r + 1)).flatMap prC)) := HP1
              have HO8 : Hid ((w7.drewN nq).ownsRow w.heap.size 109 2 (.slice (some ⟨g, 0, none⟩) j j) j (ds.flatMap prC)) := HO1
              have HB8 := hide (below_drewN (unhide HB1) nq)
              generalize w7.drewN nq = w8 at *
              clear HP1 HO1 HB1 HN1 m0
              have HS9 : Hid ((ds.take (r + 1 + 1)).flatMap prC = (ds.take (r + 1)).flatMap prC ++ [Value.string k, .string v]) := Lib.hid (by rw [List.take_add_one, HKV.out, List.flatMap_append]; rfl)
              have HP9 := hide ((unhide HP8).alloc (.cells #[.string k, .string v] 22))
              have HO9 := hide ((unhide HO8).alloc (.cells #[.string k, .string v] 22))
              have HB9 := hide ((unhide HB8).alloc (unhide HB8).size (.cells #[.string k, .string v] 22))
              have HN9 := hide (new_in w8 22 #[.string k, .string v])
              have HSEP := Lib.hid (own_own_ne (unhide HO9) (unhide HP9) (by decide))
              have hqq : q + 2 ≤ 1048576 := by have := hqi.out; omega
              go_wp2_with (at_builtin; refine wpList_app _ rfl _ _ 33 rfl w.heap.size 22 i0 _ 1 16 Tryz.underlying33 hi0 hiz0 hiz1 hiz2 rfl (by decide) (.slice A7 q c7) q ((ds.take (r + 1)).flatMap prC) rfl (unhide HP9) (some ⟨w8.heap.size, 0, none⟩) 2 2 [.string k, .string v] rfl rfl (unhide HN9) (two_str k v) (by unfold maxLen; omega) (by omega) (unhide HB9).size ?_; intro v10 w10 hown10 hgrow10 _)
              have HB10 := hide (below_app (unhide HB9) (unhide HP9) hgrow10)
              have HO10 := hide (owns_other (unhide HO9) hgrow10 (fun k hk e => HSEP.out k hk e))
              have HP10 : Hid (w10.ownsRow w.heap.size 22 1 v10 (q + 2) ((ds.take (r + 1 + 1)).flatMap prC)) := hide (by rw [HS9.out]; exact hown10)
              clear hown10 hgrow10 HB9 HP9 HO9 HN9 d0 d1
              go_wp2_with fail
              go_roundw
              case rel => exact ⟨r + 1 + 1, q + 2, by go_num, by omega, by omega, Lib.hid (by have := hqi.out; omega), HA2.out, unhide HP10, unhide HO10, unhide HB10⟩
              case measure => simp [intOf]; omega
        · obtain rfl : i = j := by omega
          have HKA : Hid (Asc (ds.map Prod.fst)) := Lib.hid (by
            have h1 := hA.out
            rwa [List.take_of_length_le (by rw [HDL.out]; exact Nat.le_refl _)] at h1)
          have HPP := Lib.hid (pairs_parts HPM.out HKA.out)
          have HM : Hid (mapP ks vs = mkP 6 (ds.flatMap fun p => [p.1, p.2])) := Lib.hid (by
            rw [HMM.out, if_pos, ← HPP.out.2, HZF.out]
            rw [← HZF.out]
            exact (HPM.out.map Prod.fst).nodup_iff.1 (asc_nodup HKA.out))
          have HEQ : Hid ((ds.take i).flatMap prC = (ds.flatMap fun p => [p.1, p.2]).map Value.string) := Lib.hid (by
            rw [List.take_of_length_le (by rw [HDL.out]; exact Nat.le_refl _), List.map_flatMap]; rfl)
          have HI := hide (InC.own hP.out)
          rw [HEQ.out] at HI
          have HLL : Hid (q = (ds.flatMap fun p => [p.1, p.2]).length) := Lib.hid (by
            have h1 := hP.out.1
            rw [HEQ.out, List.length_map] at h1
            omega)
          have HSZ : Hid (∀ s ∈ (ds.flatMap fun p => [p.1, p.2]), s.size ≤ 281474976710656) := Lib.hid (fun s hs => by
            obtain ⟨p, hp, hs⟩ := List.mem_flatMap.1 hs
            have hz := HZV.out p (HPM.out.mem_iff.1 hp)
            simp at hs
            rcases hs with rfl | rfl
            · exact HKS.out _ hz.1
            · exact HVS.out _ hz.2)
          have HC := Lib.hid (pcomp_any 6 (ds.flatMap fun p => [p.1, p.2]) A7 q c7 wr HLL.out hq HSZ.out (unhide HI))
          have HBB := hide hB.out
          generalize mkP 6 (ds.flatMap fun p => [p.1, p.2]) = mm at *
          clear hP hO hB HI HLL HSZ HEQ HPP HKA
          go_wp2_with fail
          refine HC.out.mono ?_
          rintro e w9 ⟨rfl, hb9⟩
          have HB9 := hide ((unhide HBB).trans (hb9.mono (unhide HBB).size))
          clear hb9
          go_wp2_with fail
          go_ret
          exact ⟨by rw [HM.out]; rfl, unhide HB9⟩

end Go.Proofs.YtaambeficfiacaaGreat
