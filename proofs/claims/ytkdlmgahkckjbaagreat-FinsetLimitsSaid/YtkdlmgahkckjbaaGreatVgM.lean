/- The statements' values: they are values, nested at most so deep and at most so long. No program in it. No conditions. -/
import Derived.Test.YtkdlmgahkckjbaaGreatVsD
import Derived.Deep.RegionHeld3
namespace Go.Proofs.YtkdlmgahkckjbaaGreat
open Go.RowKit VM

theorem step_app {P : Program} {w : World} {ops : Array Oper} {o : Oper} {a : Act} {K : Act → World → Prop} {Q : Exit → Act → World → Prop} {E : Prop} (hgd : o.guard = none) (s x : Operand) (t : TypeId)
    (ho : o.op = .call { callee := .builtin .append, args := #[s, x], argTypes := #[t, t] })
    (base : Nat) (e : TypeId) (i : TypeInfo) (z : Value) (size bytes : Nat) (ht : P.underlying t = some (.slice e)) (hi : P.info? e = some i) (hz : i.zero = some z)
    (hsize : i.size = size) (hby : i.bytes = bytes) (hzs : z.cells.size = size) (hsz : 0 < size)
    (v : Value) (n : Nat) (xs : List Value) (hs : a.eval s = v) (hown : w.ownsRow base e size v n xs)
    (A : Option Addr) (m c : Nat) (news : List Value) (hx : a.eval x = .slice A m c) (hl : news.length = m * size) (hr : InC w A news) (h1 : ∀ u ∈ news, u.oneCell' = true)
    (h63 : n + m ≤ maxLen) (hbytes : (n + m) * bytes ≤ 140737488355328) (hbase : base ≤ w.heap.size)
    (h : ∀ v' w', w'.ownsRow base e size v' (n + m) (xs ++ news) → w.grownBy w' v.ownBlock → (v'.ownBlock = v.ownBlock ∨ v'.ownBlock = some w.heap.size) → K (a.put o.dst v') w') : if Region.wanted o (yielded ops a.tmps) = true then Oper.wp P o a w K Q else E := by
  have hw2 : Region.wanted o (yielded ops a.tmps) = true := by simp [Region.wanted, hgd]
  rw [if_pos hw2]
  exact wp_app w s x t ho base e i z size bytes ht hi hz hsize hby hzs hsz v n xs hs hown A m c news hx hl hr h1 h63 hbytes hbase h

/-- append as an operation whose guard says that it is wanted -/
theorem wpList_app_w {P : Program} {w : World} {ops : Array Oper} {rest : List Oper} {o : Oper} {a : Act} {Q : Exit → Act → World → Prop} (hwt : Region.wanted o (yielded ops a.tmps) = true) (s x : Operand) (t : TypeId)
    (ho : o.op = .call { callee := .builtin .append, args := #[s, x], argTypes := #[t, t] })
    (base : Nat) (e : TypeId) (i : TypeInfo) (z : Value) (size bytes : Nat) (ht : P.underlying t = some (.slice e)) (hi : P.info? e = some i) (hz : i.zero = some z)
    (hsize : i.size = size) (hby : i.bytes = bytes) (hzs : z.cells.size = size) (hsz : 0 < size)
    (v : Value) (n : Nat) (xs : List Value) (hs : a.eval s = v) (hown : w.ownsRow base e size v n xs)
    (A : Option Addr) (m c : Nat) (news : List Value) (hx : a.eval x = .slice A m c) (hl : news.length = m * size) (hr : InC w A news) (h1 : ∀ u ∈ news, u.oneCell' = true)
    (h63 : n + m ≤ maxLen) (hbytes : (n + m) * bytes ≤ 140737488355328) (hbase : base ≤ w.heap.size)
    (h : ∀ v' w', w'.ownsRow base e size v' (n + m) (xs ++ news) → w.grownBy w' v.ownBlock → (v'.ownBlock = v.ownBlock ∨ v'.ownBlock = some w.heap.size) → wpList P ops Q rest (a.put o.dst v') w') : wpList P ops Q (o :: rest) a w :=
  wpList_step fun _ hK => by
    rw [if_pos hwt]
    exact wp_app w s x t ho base e i z size bytes ht hi hz hsize hby hzs hsz v n xs hs hown A m c news hx hl hr h1 h63 hbytes hbase fun v' w' h2 h3 h4 => hK _ _ (h v' w' h2 h3 h4)
/-- what the pairs with the key x give -/
def inn (x : ByteArray) (zs : List (ByteArray × ByteArray)) : List ByteArray := (zs.filter fun p => decide (p.1 = x)).flatMap fun p => [x, p.2]
def mpL (s : List ByteArray) (zs : List (ByteArray × ByteArray)) : List ByteArray := s.flatMap fun x => inn x zs
theorem inn_step {x k v : ByteArray} {zs : List (ByteArray × ByteArray)} {i : Nat} (h : zs[i]? = some (k, v)) : inn x (zs.take (i + 1)) = inn x (zs.take i) ++ (if k = x then [x, v] else []) := by
  unfold inn
  rw [List.take_add_one, h, List.filter_append, List.flatMap_append]
  congr 1
  by_cases e : k = x
  · subst e; simp
  · simp [e]
theorem inn_len (x : ByteArray) (zs : List (ByteArray × ByteArray)) : (inn x zs).length ≤ 2 * zs.length := by
  unfold inn
  induction zs with
  | nil => simp
  | cons p l ih =>
    rw [List.filter_cons]
    split
    · have h2 : [x, p.2].length = 2 := rfl
      rw [List.flatMap_cons, List.length_append, h2, List.length_cons]; omega
    · rw [List.length_cons]; omega
theorem mpL_step {s : List ByteArray} {zs : List (ByteArray × ByteArray)} {i : Nat} {x : ByteArray} (h : s[i]? = some x) : mpL (s.take (i + 1)) zs = mpL (s.take i) zs ++ inn x zs := by
  unfold mpL
  rw [List.take_add_one, h, List.flatMap_append]
  simp
theorem mpL_len (s : List ByteArray) (zs : List (ByteArray × ByteArray)) : (mpL s zs).length ≤ s.length * (2 * zs.length) := by
  unfold mpL
  induction s with
  | nil => simp
  | cons a l ih =>
    rw [List.flatMap_cons, List.length_append, List.length_cons, Nat.add_mul]
    have := inn_len a zs
    omega
theorem mpL_mem {s : List ByteArray} {zs : List (ByteArray × ByteArray)} {u : ByteArray} (h : u ∈ mpL s zs) : u ∈ s ∨ ∃ p ∈ zs, u = p.2 := by
  unfold mpL inn at h
  obtain ⟨x, hx, h⟩ := List.mem_flatMap.1 h
  obtain ⟨p, hp, h⟩ := List.mem_flatMap.1 h
  simp at h
  rcases h with rfl | rfl
  · exact .inl hx
  · exact .inr ⟨p, (List.mem_filter.1 hp).1, rfl⟩
/-- the map of some keys and values, or the empty string -/
def mapM (ks vs : List ByteArray) : ByteArray := if ks.length = vs.length ∧ ks.all (valB 32) = true ∧ vs.all (valB 32) = true ∧ (sortM ks).length = ks.length then mkM 6 (mpL (sortM ks) (ks.zip vs)) else ⟨#[]⟩
theorem two_str (s t : ByteArray) : ∀ x ∈ [Value.string s, Value.string t], x.oneCell' = true := by
  intro x hx; simp at hx; rcases hx with rfl | rfl <;> rfl
end Go.Proofs.YtkdlmgahkckjbaaGreat
namespace Go.Proofs.YtkdlmgahkckjbaaGreat
open VM

/-- a value that is nested at most d deep and is short -/
def ValOK (d : Nat) (s : ByteArray) : Prop := valB d s = true ∧ s.size + 1 ≤ 10 * 4 ^ (d - 1)
theorem pow_up {d : Nat} (hd : 1 ≤ d) : 10 * 4 ^ (d + 1 - 1) = 4 * (10 * 4 ^ (d - 1)) := by
  obtain ⟨e, rfl⟩ : ∃ e, d = e + 1 := ⟨d - 1, by omega⟩
  simp only [Nat.add_sub_cancel, Nat.pow_succ]
  omega
theorem pow_ge (d : Nat) : 10 ≤ 10 * 4 ^ (d - 1) := by
  have : 1 ≤ 4 ^ (d - 1) := Nat.one_le_pow _ _ (by decide)
  omega
theorem pow_le (d : Nat) (h : d ≤ 7) : 10 * 4 ^ (d - 1) ≤ 40960 := by
  have : 4 ^ (d - 1) ≤ 4 ^ 6 := Nat.pow_le_pow_right (by decide) (by omega)
  have e : (4 : Nat) ^ 6 = 4096 := by decide
  omega
theorem pow_le6 (d : Nat) (h : d ≤ 6) : 10 * 4 ^ (d - 1) ≤ 10240 := by
  have : 4 ^ (d - 1) ≤ 4 ^ 5 := Nat.pow_le_pow_right (by decide) (by omega)
  have e : (4 : Nat) ^ 5 = 1024 := by decide
  omega
theorem ValOK.size {d : Nat} (hd : d ≤ 7) {s : ByteArray} (h : ValOK d s) : s.size ≤ 40960 := by
  have := h.2
  have := pow_le d hd
  omega
theorem ValOK.up {d e : Nat} (h : d ≤ e) {s : ByteArray} (hs : ValOK d s) : ValOK e s := by
  refine ⟨valB_le h hs.1, Nat.le_trans hs.2 (Nat.mul_le_mul_left _ (Nat.pow_le_pow_right (by decide) (by omega)))⟩
theorem val_int {d : Nat} (hd : 1 ≤ d) (z : Int) : ValOK d (intB z) := by
  obtain ⟨e, rfl⟩ : ∃ e, d = e + 1 := ⟨d - 1, by omega⟩
  refine ⟨valB_iff.2 ⟨by rw [intB_size]; omega, .int (eightL z), rfl, ?_⟩, by rw [intB_size]; exact pow_ge _⟩
  unfold wf
  rw [eightL_len]; rfl
theorem val_name {d : Nat} (hd : 1 ≤ d) (n : Nat) : ValOK d (nameB n) := by
  obtain ⟨e, rfl⟩ : ∃ e, d = e + 1 := ⟨d - 1, by omega⟩
  refine ⟨valB_iff.2 ⟨by rw [nameB_size]; omega, .name (UInt8.ofNat (n / 256)) (UInt8.ofNat n), rfl, rfl⟩, ?_⟩
  have := pow_ge (e + 1)
  rw [nameB_size]; omega
def boolB (b : Bool) : ByteArray := ⟨#[2, if b = true then 1 else 0]⟩
theorem val_bool {d : Nat} (hd : 1 ≤ d) (b : Bool) : ValOK d (boolB b) := by
  obtain ⟨e, rfl⟩ : ∃ e, d = e + 1 := ⟨d - 1, by omega⟩
  have h2 : (boolB b).size = 2 := rfl
  refine ⟨valB_iff.2 ⟨by rw [h2]; omega, .bool (if b = true then 1 else 0), rfl, ?_⟩, ?_⟩
  · unfold wf; cases b <;> rfl
  · have := pow_ge (e + 1)
    rw [h2]; omega
theorem tree_int {z : Int} : treeB (intB z) = .int (eightL z) := by
  have h := (valB_iff.1 (val_int (d := 1) (Nat.le_refl _) z).1).2
  refine tree_of (d := 1) (by omega) (v := .int (eightL z)) rfl ?_
  unfold wf
  rw [eightL_len]; rfl
theorem tree_name {n : Nat} : treeB (nameB n) = .name (UInt8.ofNat (n / 256)) (UInt8.ofNat n) := tree_of (d := 1) (by omega) rfl rfl
theorem totB_cons (a : ByteArray) (l : List ByteArray) : totB (a :: l) = a.size + totB l := by unfold totB; simp
theorem totB_bound {N : Nat} : ∀ {l : List ByteArray}, (∀ s ∈ l, s.size ≤ N) → totB l ≤ l.length * N
  | [], _ => by simp [totB]
  | a :: l, h => by
    have h1 := h a (by simp)
    have h2 := totB_bound (l := l) fun s hs => h s (List.mem_cons_of_mem _ hs)
    rw [totB_cons, List.length_cons, Nat.add_mul]; omega
theorem totB_ok {d : Nat} {l : List ByteArray} (h : ∀ s ∈ l, ValOK d s) : totB l + l.length ≤ l.length * (10 * 4 ^ (d - 1)) := by
  induction l with
  | nil => simp [totB]
  | cons a l ih =>
    have h1 := (h a (by simp)).2
    have h2 := ih fun s hs => h s (List.mem_cons_of_mem _ hs)
    rw [totB_cons, List.length_cons, Nat.add_mul]; omega
/-- a compound value of short values -/
theorem comp_ok {d : Nat} (hd : 1 ≤ d) (hd6 : d ≤ 6) {k : UInt8} (hk : isComp k = true) {ps : List ByteArray} (h : ∀ s ∈ ps, valB d s = true) (hp : parted (ord d) k (ps.map treeB) = true) (hz : 4 + totB ps ≤ 4 * (10 * 4 ^ (d - 1))) : ValOK (d + 1) (mkM k ps) := by
  have hb := pow_le6 d hd6
  have hm := mkM_good (by omega) h hk hp (by omega)
  rw [hm.1]
  refine ⟨hm.2, ?_⟩
  rw [encB_size, pow_up hd]; omega
theorem headL_ne {k : UInt8} (h7 : k ≠ 7) (h8 : k ≠ 8) (h9 : k ≠ 9) : ∀ l : List V, headL k l = true
  | [] => rfl
  | a :: _ => headOK_ne h7 h8 h9 a
theorem ok_tuple {d : Nat} (hd : 1 ≤ d) (hd6 : d ≤ 6) {s t : ByteArray} (hs : ValOK d s) (ht : ValOK d t) : ValOK (d + 1) (mkM 3 [s, t]) := by
  have ha : ∀ x ∈ [s, t], ValOK d x := by intro x hx; simp at hx; rcases hx with rfl | rfl; exact hs; exact ht
  refine comp_ok hd hd6 (by decide) (fun x hx => (ha x hx).1) ?_ ?_
  · unfold parted countOK ascOK
    rw [headL_ne (by decide) (by decide) (by decide)]; simp
  · have := totB_ok ha
    have := pow_ge d
    simp at *; omega
theorem ok_seq {d : Nat} (hd : 1 ≤ d) (hd6 : d ≤ 6) {l : List ByteArray} (ha : ∀ s ∈ l, ValOK d s) (hl : l.length ≤ 3) : ValOK (d + 1) (mkM 4 l) := by
  refine comp_ok hd hd6 (by decide) (fun x hx => (ha x hx).1) ?_ ?_
  · unfold parted countOK ascOK
    rw [headL_ne (by decide) (by decide) (by decide)]; simp
  · have h1 := totB_ok ha
    have h2 := pow_ge d
    have h3 : l.length * (10 * 4 ^ (d - 1)) ≤ 3 * (10 * 4 ^ (d - 1)) := Nat.mul_le_mul_right _ hl
    omega
theorem ok_set {d : Nat} (hd : 1 ≤ d) (hd6 : d ≤ 6) {l : List ByteArray} (ha : ∀ s ∈ l, ValOK d s) (hl : l.length ≤ 3) : ValOK (d + 1) (mkM 5 (sortM l)) := by
  have hb : ∀ s ∈ sortM l, ValOK d s := fun s hs => ha s (sortM_mem.1 hs)
  refine comp_ok hd hd6 (by decide) (fun x hx => (hb x hx).1) ?_ ?_
  · unfold parted countOK ascOK
    rw [headL_ne (by decide) (by decide) (by decide)]
    simp [asc_tree (d := d) (by omega) (fun x hx => (hb x hx).1) (sortM_asc l)]
  · have h1 := totB_ok hb
    have h2 := pow_ge d
    have h4 := sortM_len l
    have h3 : (sortM l).length * (10 * 4 ^ (d - 1)) ≤ 3 * (10 * 4 ^ (d - 1)) := Nat.mul_le_mul_right _ (by omega)
    omega
theorem nameI_nat {n : Nat} (h : n ≤ 65535) : nameI (n : Int) = nameB n := by
  unfold nameI
  rw [if_pos (by omega)]; rfl
theorem ok_dot {d : Nat} (hd : 1 ≤ d) (hd6 : d ≤ 6) {l : List ByteArray} (ha : ∀ s ∈ l, ValOK d s) (hl : l.length ≤ 2) {r : Nat} (hr : r ≤ 65535) : ValOK (d + 1) (mkM 7 (nameI (r : Int) :: l)) := by
  rw [nameI_nat hr]
  refine comp_ok hd hd6 (by decide) ?_ ?_ ?_
  · intro x hx
    rcases List.mem_cons.1 hx with rfl | hx
    · exact (val_name hd r).1
    · exact (ha x hx).1
  · rw [List.map_cons, tree_name]
    unfold parted countOK ascOK headL headOK
    simp; omega
  · have h1 := totB_ok ha
    have h2 := pow_ge d
    have h3 : l.length * (10 * 4 ^ (d - 1)) ≤ 2 * (10 * 4 ^ (d - 1)) := Nat.mul_le_mul_right _ hl
    rw [totB_cons, nameB_size]; omega
theorem ok_fun {d : Nat} (hd : 1 ≤ d) (hd6 : d ≤ 6) {l : List ByteArray} (ha : ∀ s ∈ l, ValOK d s) (hl : l.length ≤ 1) {r : Nat} (hr : r ≤ 65535) : ValOK (d + 1) (mkM 8 (intB (r : Int) :: l)) := by
  refine comp_ok hd hd6 (by decide) ?_ ?_ ?_
  · intro x hx
    rcases List.mem_cons.1 hx with rfl | hx
    · exact (val_int hd r).1
    · exact (ha x hx).1
  · rw [List.map_cons, tree_int]
    have hnum := numL_eight (r : Int) (by omega) (by omega)
    unfold parted countOK ascOK headL headOK
    simp [hnum]; omega
  · have h1 := totB_ok ha
    have h2 := pow_ge d
    have h3 : l.length * (10 * 4 ^ (d - 1)) ≤ 1 * (10 * 4 ^ (d - 1)) := Nat.mul_le_mul_right _ hl
    rw [totB_cons, intB_size]; omega
/-- keys and values in turn -/
def inter : List ByteArray → List ByteArray → List ByteArray
  | k :: ks, v :: vs => k :: v :: inter ks vs
  | _, _ => []
theorem inn_none {x : ByteArray} {zs : List (ByteArray × ByteArray)} (h : ∀ p ∈ zs, p.1 ≠ x) : inn x zs = [] := by
  unfold inn
  rw [List.filter_eq_nil_iff.2 fun p hp => by simpa using h p hp]; rfl
theorem inn_cons {x k v : ByteArray} {zs : List (ByteArray × ByteArray)} : inn x ((k, v) :: zs) = (if k = x then [x, v] else []) ++ inn x zs := by
  unfold inn
  by_cases e : k = x
  · subst e; simp
  · simp [e]
theorem mpL_cons {s : List ByteArray} {k v : ByteArray} {zs : List (ByteArray × ByteArray)} (h : k ∉ s) : mpL s ((k, v) :: zs) = mpL s zs := by
  unfold mpL
  induction s with
  | nil => rfl
  | cons a l ih =>
    rw [List.flatMap_cons, List.flatMap_cons, ih (fun q => h (List.mem_cons_of_mem _ q)), inn_cons, if_neg (fun q => h (by rw [q]; simp))]
    rfl
theorem mpL_inter : ∀ {ks vs : List ByteArray}, ks.Nodup → ks.length = vs.length → mpL ks (ks.zip vs) = inter ks vs
  | [], [], _, _ => rfl
  | [], _ :: _, _, h => by simp at h
  | _ :: _, [], _, h => by simp at h
  | k :: ks, v :: vs, h, hl => by
    obtain ⟨h1, h2⟩ := List.nodup_cons.1 h
    have ih := mpL_inter (vs := vs) h2 (by simpa using hl)
    rw [List.zip_cons_cons]
    show mpL (k :: ks) _ = k :: v :: inter ks vs
    have e : mpL (k :: ks) ((k, v) :: ks.zip vs) = inn k ((k, v) :: ks.zip vs) ++ mpL ks ((k, v) :: ks.zip vs) := by unfold mpL; rw [List.flatMap_cons]
    rw [e, mpL_cons h1, ih, inn_cons, if_pos rfl, inn_none fun p hp q => h1 (by rw [← q]; exact (List.of_mem_zip (a := p.1) (b := p.2) hp).1)]
    rfl
theorem asc_nodup {l : List ByteArray} (h : Asc l) : l.Nodup := List.Pairwise.imp (fun {a b} q e => by subst e; rw [cmpM_self] at q; omega) h
theorem inter_len : ∀ {ks vs : List ByteArray}, ks.length = vs.length → (inter ks vs).length = 2 * ks.length
  | [], [], _ => rfl
  | [], _ :: _, h => by simp at h
  | _ :: _, [], h => by simp at h
  | k :: ks, v :: vs, h => by
    have := inter_len (ks := ks) (vs := vs) (by simpa using h)
    show (k :: v :: inter ks vs).length = _
    rw [List.length_cons, List.length_cons, this, List.length_cons]; omega
theorem inter_mem : ∀ {ks vs : List ByteArray} {u : ByteArray}, u ∈ inter ks vs → u ∈ ks ∨ u ∈ vs
  | k :: ks, v :: vs, u, h => by
    have h' : u ∈ k :: v :: inter ks vs := h
    rcases List.mem_cons.1 h' with rfl | h'
    · exact .inl (by simp)
    rcases List.mem_cons.1 h' with rfl | h'
    · exact .inr (by simp)
    rcases inter_mem h' with h' | h'
    · exact .inl (List.mem_cons_of_mem _ h')
    · exact .inr (List.mem_cons_of_mem _ h')
  | [], [], u, h => by cases h
  | [], _ :: _, u, h => by cases h
  | _ :: _, [], u, h => by cases h
theorem evens_inter : ∀ {ks vs : List ByteArray}, ks.length = vs.length → evens ((inter ks vs).map treeB) = ks.map treeB
  | [], [], _ => rfl
  | [], _ :: _, h => by simp at h
  | _ :: _, [], h => by simp at h
  | k :: ks, v :: vs, h => by
    show treeB k :: evens ((inter ks vs).map treeB) = _
    rw [evens_inter (by simpa using h)]; rfl
theorem mapM_asc {ks vs : List ByteArray} (h : Asc ks) (hl : ks.length = vs.length) (hk : ∀ s ∈ ks, valB 32 s = true) (hv : ∀ s ∈ vs, valB 32 s = true) : mapM ks vs = mkM 6 (inter ks vs) := by
  unfold mapM
  rw [if_pos ⟨hl, List.all_eq_true.2 hk, List.all_eq_true.2 hv, by rw [sortM_self h]⟩, sortM_self h, mpL_inter (asc_nodup h) hl]
theorem ok_map {d : Nat} (hd : 1 ≤ d) (hd6 : d ≤ 6) {ks vs : List ByteArray} (h : Asc ks) (hl : ks.length = vs.length) (hk : ∀ s ∈ ks, ValOK d s) (hv : ∀ s ∈ vs, ValOK d s) (h2 : ks.length ≤ 2) : ValOK (d + 1) (mapM ks vs) := by
  rw [mapM_asc h hl (fun s hs => valB_le (by omega) (hk s hs).1) (fun s hs => valB_le (by omega) (hv s hs).1)]
  have ha : ∀ s ∈ inter ks vs, ValOK d s := fun s hs => (inter_mem hs).elim (hk s) (hv s)
  have h4 := inter_len hl
  refine comp_ok hd hd6 (by decide) (fun x hx => (ha x hx).1) ?_ ?_
  · unfold parted ascOK
    rw [headL_ne (by decide) (by decide) (by decide), evens_inter hl]
    unfold countOK
    rw [List.length_map, h4]
    simp [asc_tree (d := d) (by omega) (fun x hx => (hk x hx).1) h]
  · have h1 := totB_ok ha
    have h3 := pow_ge d
    rw [h4] at h1
    have h5 : 2 * ks.length * (10 * 4 ^ (d - 1)) ≤ 4 * (10 * 4 ^ (d - 1)) := Nat.mul_le_mul_right _ (by omega)
    have h6 : ks.length = 0 ∨ ks.length = 1 ∨ ks.length = 2 := by omega
    rcases h6 with h6 | h6 | h6 <;> rw [h6] at h1 h5 <;> omega

end Go.Proofs.YtkdlmgahkckjbaaGreat
