/- The keys and the values of a map: the program's pairs, the reference's keyed. Conditions: strings of at most 2^48 bytes. -/
-- by tools/gen_fny.py
import Derived.Test.YtaambeficfiacaaGreatFnX
import Derived.Test.YtaambeficfiacaaGreatVgM
import Derived.Deep.RegionHeld3
namespace Go.Proofs.YtaambeficfiacaaGreat
open Go.RowKit Go.Shelf VM

def evB : List ByteArray → List ByteArray
  | a :: _ :: l => a :: evB l
  | _ => []
def odB : List ByteArray → List ByteArray
  | _ :: b :: l => b :: odB l
  | _ => []
theorem ev_tree : ∀ {l : List ByteArray}, l.length % 2 = 0 → evens (l.map treeB) = (evB l).map treeB
  | [], _ => rfl
  | [_], h => by simp at h
  | a :: b :: l, h => by
    show treeB a :: evens (l.map treeB) = treeB a :: (evB l).map treeB
    rw [ev_tree (l := l) (by simp at h; omega)]
theorem ev_len : ∀ {l : List ByteArray}, l.length % 2 = 0 → 2 * (evB l).length = l.length
  | [], _ => rfl
  | [_], h => by simp at h
  | a :: b :: l, h => by
    have := ev_len (l := l) (by simp at h; omega)
    simp [evB]; omega
theorem od_len : ∀ {l : List ByteArray}, (odB l).length = (evB l).length
  | [] => rfl
  | [_] => rfl
  | a :: b :: l => by simp [evB, odB, od_len (l := l)]
theorem ev_sub : ∀ l : List ByteArray, (evB l).Sublist l
  | [] => .slnil
  | [_] => List.nil_sublist _
  | a :: b :: l => by
    show (a :: evB l).Sublist (a :: b :: l)
    exact ((ev_sub l).cons b).cons_cons a
theorem od_sub : ∀ l : List ByteArray, (odB l).Sublist l
  | [] => .slnil
  | [_] => List.nil_sublist _
  | a :: b :: l => by
    show (b :: odB l).Sublist (a :: b :: l)
    exact ((od_sub l).cons_cons b).cons a
theorem ev_get : ∀ (l : List ByteArray) (k : Nat), 2 * k + 1 < l.length → (evB l)[k]? = l[2 * k]? ∧ (odB l)[k]? = l[2 * k + 1]?
  | [], _, h => by simp at h
  | [_], _, h => by simp at h
  | a :: b :: l, 0, _ => ⟨rfl, rfl⟩
  | a :: b :: l, k + 1, h => by
    have := ev_get l k (by simp at h; omega)
    have e1 : 2 * (k + 1) = 2 * k + 1 + 1 := by omega
    rw [e1]
    exact this
theorem ev_step {l : List ByteArray} {k j : Nat} {a b : ByteArray} (hj : j = 2 * k) (h1 : l[j]? = some a) (h2 : l[j + 1]? = some b) : (evB l).take (k + 1) = (evB l).take k ++ [a] ∧ (odB l).take (k + 1) = (odB l).take k ++ [b] := by
  subst hj
  have hl := (List.getElem?_eq_some_iff.1 h2).1
  obtain ⟨e1, e2⟩ := ev_get l k hl
  rw [h1] at e1
  rw [h2] at e2
  exact ⟨by rw [List.take_add_one, e1]; rfl, by rw [List.take_add_one, e2]; rfl⟩
theorem pt_map {s : ByteArray} (h : isK 6 s = true) : Asc (evB (pt s)) ∧ (pt s).length % 2 = 0 ∧ mkM 6 (pt s) = s := by
  obtain ⟨l, ht⟩ := isK_comp (by decide) h
  have hv := (isK_valid h).1
  obtain ⟨h1, h2, h3, h4, h5⟩ := pt_comp hv ht
  have t1 := (tree_ok hv).1
  rw [ht] at t1
  unfold wf parted at t1
  simp only [Bool.and_eq_true, decide_eq_true_eq] at t1
  have c1 : (pt s).length % 2 = 0 := by
    have := t1.2.2.2.1
    unfold countOK at this
    simp at this
    rw [← h3, List.length_map] at this
    exact this
  refine ⟨asc_of_tree (d := 31) (by decide) (fun u hu => h2 u ((ev_sub _).subset hu)) ?_, c1, ?_⟩
  · rw [← ev_tree c1, h3]
    have := t1.2.2.2.2.2
    unfold ascOK at this
    simpa using this
  · rw [mkM_val (pt_val32 s), ← h4, if_pos hv]

/-- two rows that a call has made, beside one another -/
structure TwoR (w0 w : World) (kv vv : Value) (n m : Nat) (ks vs : List Value) : Prop where
  below : Below w0.heap.size w0 w
  ok : w.ownsRow w0.heap.size 22 1 kv n ks
  ov : w.ownsRow w0.heap.size 22 1 vv m vs
  ne : kv.ownBlock = none ∨ vv.ownBlock = none ∨ kv.ownBlock ≠ vv.ownBlock
/-- a literal beside them -/
structure LitR (w : World) (kv vv : Value) (g : Nat) (cs : Array Value) : Prop where
  blk : Blk w g 22 cs
  nk : some g ≠ kv.ownBlock
  nv : some g ≠ vv.ownBlock
section
variable {w0 w w' : World} {kv vv kv' vv' : Value} {n m g : Nat} {ks vs : List Value} {cs : Array Value}
theorem TwoR.start (w0 : World) : TwoR w0 w0 (.slice none 0 0) (.slice none 0 0) 0 0 [] [] := ⟨Below.refl _ _, World.ownsRow_nil _ _ _ _, World.ownsRow_nil _ _ _ _, .inl rfl⟩
theorem TwoR.drew (h : TwoR w0 w kv vv n m ks vs) : TwoR w0 w.drew kv vv n m ks vs := ⟨below_drew h.below, h.ok, h.ov, h.ne⟩
theorem TwoR.alloc (h : TwoR w0 w kv vv n m ks vs) (x : Obj) : TwoR w0 (w.alloc x) kv vv n m ks vs := ⟨h.below.alloc h.below.size x, h.ok.alloc x, h.ov.alloc x, h.ne⟩
theorem TwoR.lit (h : TwoR w0 w kv vv n m ks vs) (cs : Array Value) : LitR (w.alloc (.cells cs 22)) kv vv w.heap.size cs :=
  ⟨Blk.new w _ cs, fun e => by have := (h.ok.lt _ e.symm).2; omega, fun e => by have := (h.ov.lt _ e.symm).2; omega⟩
theorem LitR.alloc (h : LitR w kv vv g cs) (x : Obj) : LitR (w.alloc x) kv vv g cs := ⟨h.blk.alloc x, h.nk, h.nv⟩
theorem LitR.at1 {u : Value} (h : LitR w kv vv g #[u]) : InC w (some ⟨g, 0, none⟩) [u] :=
  .inr ⟨g, 0, rfl, h.blk.lt, fun i v hv => by rw [Nat.zero_add, h.blk.cell]; simpa using hv⟩
theorem TwoR.appK (h : TwoR w0 w kv vv n m ks vs) {n' : Nat} {ks' : List Value} (ho : w'.ownsRow w0.heap.size 22 1 kv' n' ks') (hg : w.grownBy w' kv.ownBlock) (hr : kv'.ownBlock = kv.ownBlock ∨ kv'.ownBlock = some w.heap.size) : TwoR w0 w' kv' vv n' m ks' vs := by
  refine ⟨below_app h.below h.ok hg, ho, ?_, ?_⟩
  · by_cases e : vv.ownBlock = none
    · exact h.ov.kept hg (.inl e)
    · refine h.ov.kept hg (.inr fun q => ?_)
      rcases h.ne with h1 | h1 | h1
      · exact e (q.trans h1)
      · exact e h1
      · exact h1 q.symm
  · rcases hr with h1 | h1
    · rw [h1]; exact h.ne
    · rw [h1]
      exact .inr (.inr fun q => by have := (h.ov.lt _ q.symm).2; omega)
theorem TwoR.swap (h : TwoR w0 w kv vv n m ks vs) : TwoR w0 w vv kv m n vs ks := ⟨h.below, h.ov, h.ok, by
  rcases h.ne with h1 | h1 | h1
  · exact .inr (.inl h1)
  · exact .inl h1
  · exact .inr (.inr fun q => h1 q.symm)⟩
theorem TwoR.appV (h : TwoR w0 w kv vv n m ks vs) {n' : Nat} {vs' : List Value} (ho : w'.ownsRow w0.heap.size 22 1 vv' n' vs') (hg : w.grownBy w' vv.ownBlock) (hr : vv'.ownBlock = vv.ownBlock ∨ vv'.ownBlock = some w.heap.size) : TwoR w0 w' kv vv' n n' ks vs' :=
  (h.swap.appK ho hg hr).swap
theorem LitR.appK (h : LitR w kv vv g cs) (hg : w.grownBy w' kv.ownBlock) (hr : kv'.ownBlock = kv.ownBlock ∨ kv'.ownBlock = some w.heap.size) : LitR w' kv' vv g cs :=
  ⟨h.blk.grown hg h.nk, by
    rcases hr with h1 | h1
    · rw [h1]; exact h.nk
    · rw [h1]; intro q; have := h.blk.lt; have := Option.some.inj q; omega, h.nv⟩
end
/-- a call has made two lists of these strings -/
def RowRR (w : World) (ks vs : List ByteArray) (e : Ending) (w' : World) : Prop := ∃ (A B : Option Addr) (c d n m : Nat), e = .returned (.tuple #[.slice A n c, .slice B m d]) ∧ n = ks.length ∧ m = vs.length ∧ TwoR w w' (.slice A n c) (.slice B m d) n m (ks.map Value.string) (vs.map Value.string)

theorem two_below {w0 w1 w : World} {kv vv : Value} {n m : Nat} {ks vs : List Value} (hb : Below w0.heap.size w0 w1) (h : TwoR w1 w kv vv n m ks vs) : TwoR w0 w kv vv n m ks vs :=
  ⟨hb.trans (h.below.mono hb.size), owns_base h.ok hb.size, owns_base h.ov hb.size, h.ne⟩
set_option linter.unusedSimpArgs false in
set_option maxRecDepth 100000 in
set_option maxHeartbeats 6400000 in
theorem ppairs_any (s : ByteArray) (hs : s.size ≤ 281474976710656) (h6 : (pt s).length % 2 = 0) (w : World) :
    Calls Tryz.prog 62 #[.string s] w (RowRR w (evB (pt s)) (odB (pt s))) := by
  have HPX := Lib.hid (fun w => pparts_any s hs w)
  have HLE := Lib.hid (pt_len s)
  have HEVN : Hid ((pt s).length % 2 = 0) := Lib.hid h6
  generalize pt s = ps at *
  obtain ⟨i0, hi0, hiz0, hiz1, hiz2⟩ := info_parts val_info
  clear h6
  go_enter Tryz.func62, Tryz.ntmps62
  go_wp2_with fail
  refine (HPX.out _).mono ?_
  rintro e w3 ⟨S3, c3, n3, rfl, hn3, hO3, hb3⟩
  have HB3 := hide hb3
  have HN3 := Lib.hid hn3
  have hn6 : n3 ≤ 65536 := by rw [hn3]; exact HLE.out
  have hne : n3 % 2 = 0 := by rw [hn3]; exact HEVN.out
  have HI3 := hide (InC.own hO3)
  clear hb3 hn3 hO3
  go_wp2_with fail
  go_loopw [2, 3, 5] (fun kv vv iv wr => ∃ (j k : Nat), iv = .int .i64 j ∧ Hid (j = 2 * k) ∧ j ≤ n3 ∧ Hid (TwoR w3 wr kv vv k k (((evB ps).take k).map Value.string) (((odB ps).take k).map Value.string))) (fun _ _ iv _ => n3 - (intOf iv).toNat)
  case atStart => exact ⟨0, 0, rfl, Lib.hid rfl, by omega, by rw [List.take_zero, List.take_zero]; exact TwoR.start _⟩
  case round =>
    obtain ⟨j, k, rfl, hjk, hj, hT⟩ := hrel
    obtain ⟨A4, c4, rfl⟩ := owns_form hT.out.ok
    obtain ⟨A5, c5, rfl⟩ := owns_form hT.out.ov
    have HTw := hide hT.out
    clear hT
    by_cases hjL : j < n3
    · obtain ⟨x, hx⟩ : ∃ x, ps[j]? = some x := ⟨ps[j]'(by have := HN3.out; omega), List.getElem?_eq_getElem _⟩
      obtain ⟨y, hy⟩ : ∃ y, ps[j + 1]? = some y := ⟨ps[j + 1]'(by have := HN3.out; have := hjk.out; omega), List.getElem?_eq_getElem _⟩
      have HEV := Lib.hid (ev_step hjk.out hx hy)
      obtain ⟨b9, o9, hS3, hb5, hc5⟩ := at1s (unhide HI3) (i := j) (u := .string x) (by rw [List.getElem?_map, hx]; rfl)
      obtain ⟨b, o5, hS4, hb6, hc6⟩ := at1s (unhide HI3) (i := j + 1) (u := .string y) (by rw [List.getElem?_map, hy]; rfl)
      obtain ⟨rfl, rfl⟩ : b = b9 ∧ o5 = o9 := by
        rw [hS3] at hS4
        injection hS4 with h1
        injection h1 with h2 h3
        exact ⟨h2.symm, h3.symm⟩
      subst hS3
      have HF := Lib.hid (fun W (h : Below w3.heap.size w3 W) => (⟨(h.cell (p := ⟨b, o5 + j, none⟩) hb5).trans hc5, (h.cell (p := ⟨b, o5 + (j + 1), none⟩) hb6).trans hc6⟩ : W.cell? ⟨b, o5 + j, none⟩ = some (.string x) ∧ W.cell? ⟨b, o5 + (j + 1), none⟩ = some (.string y)))
      have hj2 : j + 1 < n3 := by have := hjk.out; omega
      obtain ⟨j1, hj1⟩ : ∃ j1, j + 1 = j1 := ⟨_, rfl⟩
      rw [hj1] at HF hj2
      have gw : IntKind.i64.wrap ((j : Int) + 1) = (j1 : Int) := by rw [IntWalk.i64_in _ (by omega)]; omega
      clear hj1
      have hk6 : k ≤ 65536 := by have := hjk.out; omega
      clear hx hy hb5 hc5 hb6 hc6 hS4
      go_wp2_with fail
      have HT := hide (unhide HTw).drew
      clear HTw
      have fd0 : Hid (wr.drew.cell? ⟨b, o5 + j, none⟩ = some (.string x)) := (HF.out _ (unhide HT).below).1
      have fd1 : Hid (wr.drew.cell? ⟨b, o5 + j1, none⟩ = some (.string y)) := (HF.out _ (unhide HT).below).2
      refine wp_region_noPanic ?_
      refine wp_region_held_drew (S := fun W => W.cell? ⟨b, o5 + j, none⟩ = some (.string x) ∧ W.cell? ⟨b, o5 + j1, none⟩ = some (.string y)) (by kernel_rfl) ⟨fd0, fd1⟩ (fun _ => ?_)
      generalize wr.drew = wd at *
      try simp only [Act.put, List.setIfInBounds_toArray, List.set_cons_zero, List.set_cons_succ]
      refine wpAnyH_take (i := 0) (oi := { dst := some 15, op := Op.move (Operand.tmp 2), type := 33, pos := "map.go:16", after := #[], guard := none }) (v := ?_) rfl (by kernel_rfl) (by kernel_rfl) (by kernel_rfl) (fun _ _ _ h => h) (Or.inl ⟨by rfl, ?_⟩) ⟨fd0, fd1⟩ ?_
      rotate_left 1
      · intro w hSw
        obtain ⟨hSw0, hSw1⟩ := hSw
        go_simp
        first
          | done
          | with_reducible rfl
          | rw [if_neg (by omega)]
      try simp only [Act.put, List.setIfInBounds_toArray, List.set_cons_zero, List.set_cons_succ]
      refine wpAnyH_take (i := 1) (oi := { dst := some 16, op := Op.move (Operand.tmp 4), type := 33, pos := "map.go:16", after := #[], guard := none }) (v := ?_) rfl (by kernel_rfl) (by kernel_rfl) (by kernel_rfl) (fun _ _ _ h => h) (Or.inl ⟨by rfl, ?_⟩) ⟨fd0, fd1⟩ ?_
      rotate_left 1
      · intro w hSw
        obtain ⟨hSw0, hSw1⟩ := hSw
        go_simp
        first
          | done
          | with_reducible rfl
          | rw [if_neg (by omega)]
      try simp only [Act.put, List.setIfInBounds_toArray, List.set_cons_zero, List.set_cons_succ]
      refine wpAnyH_take (i := 2) (oi := { dst := some 17, op := Op.move (Operand.tmp 5), type := 3, pos := "map.go:16", after := #[], guard := none }) (v := ?_) rfl (by kernel_rfl) (by kernel_rfl) (by kernel_rfl) (fun _ _ _ h => h) (Or.inl ⟨by rfl, ?_⟩) ⟨fd0, fd1⟩ ?_
      rotate_left 1
      · intro w hSw
        obtain ⟨hSw0, hSw1⟩ := hSw
        go_simp
        first
          | done
          | with_reducible rfl
          | rw [if_neg (by omega)]
      try simp only [Act.put, List.setIfInBounds_toArray, List.set_cons_zero, List.set_cons_succ]
      refine wpAnyH_take (i := 3) (oi := { dst := some 18, op := Op.indexAddr 33 (Operand.tmp 16) (Operand.tmp 17), type := 0, pos := "map.go:16", after := #[{ on := 1, ground := Ground.data }, { on := 2, ground := Ground.data }], guard := none }) (v := ?_) rfl (by kernel_rfl) (by kernel_rfl) (by kernel_rfl) (fun _ _ _ h => h) (Or.inl ⟨by rfl, ?_⟩) ⟨fd0, fd1⟩ ?_
      rotate_left 1
      · intro w hSw
        obtain ⟨hSw0, hSw1⟩ := hSw
        go_simp
        first
          | done
          | with_reducible rfl
          | rw [if_neg (by omega)]
      try simp only [Act.put, List.setIfInBounds_toArray, List.set_cons_zero, List.set_cons_succ]
      refine wpAnyH_take (i := 4) (oi := { dst := some 19, op := Op.load 22 (Operand.tmp 18), type := 22, pos := "map.go:16", after := #[{ on := 3, ground := Ground.data }], guard := none }) (v := ?_) rfl (by kernel_rfl) (by kernel_rfl) (by kernel_rfl) (fun _ _ _ h => h) (Or.inl ⟨by rfl, ?_⟩) ⟨fd0, fd1⟩ ?_
      rotate_left 1
      · intro w hSw
        obtain ⟨hSw0, hSw1⟩ := hSw
        go_simp
        first
          | done
          | with_reducible rfl
          | rw [if_neg (by omega)]
      try simp only [Act.put, List.setIfInBounds_toArray, List.set_cons_zero, List.set_cons_succ]
      refine wpAnyH_take (i := 7) (oi := { dst := some 22, op := Op.move (Operand.tmp 3), type := 33, pos := "map.go:16", after := #[], guard := none }) (v := ?_) rfl (by kernel_rfl) (by kernel_rfl) (by kernel_rfl) (fun _ _ _ h => h) (Or.inl ⟨by rfl, ?_⟩) ⟨fd0, fd1⟩ ?_
      rotate_left 1
      · intro w hSw
        obtain ⟨hSw0, hSw1⟩ := hSw
        go_simp
        first
          | done
          | with_reducible rfl
          | rw [if_neg (by omega)]
      try simp only [Act.put, List.setIfInBounds_toArray, List.set_cons_zero, List.set_cons_succ]
      refine wpAnyH_take (i := 8) (oi := { dst := some 23, op := Op.move (Operand.tmp 4), type := 33, pos := "map.go:16", after := #[], guard := none }) (v := ?_) rfl (by kernel_rfl) (by kernel_rfl) (by kernel_rfl) (fun _ _ _ h => h) (Or.inl ⟨by rfl, ?_⟩) ⟨fd0, fd1⟩ ?_
      rotate_left 1
      · intro w hSw
        obtain ⟨hSw0, hSw1⟩ := hSw
        go_simp
        first
          | done
          | with_reducible rfl
          | rw [if_neg (by omega)]
      try simp only [Act.put, List.setIfInBounds_toArray, List.set_cons_zero, List.set_cons_succ]
      refine wpAnyH_take (i := 9) (oi := { dst := some 24, op := Op.move (Operand.tmp 5), type := 3, pos := "map.go:16", after := #[], guard := none }) (v := ?_) rfl (by kernel_rfl) (by kernel_rfl) (by kernel_rfl) (fun _ _ _ h => h) (Or.inl ⟨by rfl, ?_⟩) ⟨fd0, fd1⟩ ?_
      rotate_left 1
      · intro w hSw
        obtain ⟨hSw0, hSw1⟩ := hSw
        go_simp
        first
          | done
          | with_reducible rfl
          | rw [if_neg (by omega)]
      try simp only [Act.put, List.setIfInBounds_toArray, List.set_cons_zero, List.set_cons_succ]
      refine wpAnyH_take (i := 10) (oi := { dst := some 25, op := Op.binOp BinOp.add 3 (Operand.tmp 24) (Operand.const (Value.int IntKind.i64 1)) 3, type := 3, pos := "map.go:16", after := #[{ on := 9, ground := Ground.data }], guard := none }) (v := .int .i64 (j1 : Int)) rfl (by kernel_rfl) (by kernel_rfl) (by kernel_rfl) (fun _ _ _ h => h) (Or.inl ⟨by rfl, ?_⟩) ⟨fd0, fd1⟩ ?_
      · intro w hSw
        go_simp
        try rw [gw]
        try rfl
      try simp only [Act.put, List.setIfInBounds_toArray, List.set_cons_zero, List.set_cons_succ]
      refine wpAnyH_take (i := 11) (oi := { dst := some 26, op := Op.indexAddr 33 (Operand.tmp 23) (Operand.tmp 25), type := 0, pos := "map.go:16", after := #[{ on := 8, ground := Ground.data }, { on := 10, ground := Ground.data }], guard := none }) (v := ?_) rfl (by kernel_rfl) (by kernel_rfl) (by kernel_rfl) (fun _ _ _ h => h) (Or.inl ⟨by rfl, ?_⟩) ⟨fd0, fd1⟩ ?_
      rotate_left 1
      · intro w hSw
        obtain ⟨hSw0, hSw1⟩ := hSw
        go_simp
        first
          | done
          | with_reducible rfl
          | rw [if_neg (by omega)]
      try simp only [Act.put, List.setIfInBounds_toArray, List.set_cons_zero, List.set_cons_succ]
      refine wpAnyH_take (i := 12) (oi := { dst := some 27, op := Op.load 22 (Operand.tmp 26), type := 22, pos := "map.go:16", after := #[{ on := 11, ground := Ground.data }], guard := none }) (v := ?_) rfl (by kernel_rfl) (by kernel_rfl) (by kernel_rfl) (fun _ _ _ h => h) (Or.inl ⟨by rfl, ?_⟩) ⟨fd0, fd1⟩ ?_
      rotate_left 1
      · intro w hSw
        obtain ⟨hSw0, hSw1⟩ := hSw
        go_simp
        first
          | done
          | with_reducible rfl
          | rw [if_neg (by omega)]
      try simp only [Act.put, List.setIfInBounds_toArray, List.set_cons_zero, List.set_cons_succ]
      refine wpAnyH_ready (rs := [5, 13]) (by kernel_rfl) (by simp) ?_
      refine (AllReadyH.cons (o := { dst := some 20, op := Op.buildSlice 33 1 #[(0, Operand.tmp 19)], type := 33, pos := "map.go:16", after := #[{ on := 4, ground := Ground.data }], guard := none }) rfl (fun K hK => ?_) (AllReadyH.cons (o := { dst := some 28, op := Op.buildSlice 33 1 #[(0, Operand.tmp 27)], type := 33, pos := "map.go:16", after := #[{ on := 12, ground := Ground.data }], guard := none }) rfl (fun K hK => ?_) AllReadyH.nil))
      · go_simp
        try dsimp only
        have HT701 := hide ((unhide HT).alloc (.cells #[.string x] 22))
        have HL701 := hide ((unhide HT).lit #[.string x])
        have fp701 := HF.out _ (unhide HT701).below
        refine hK.out _ (wd.alloc (.cells #[.string x] 22)) fp701 (fun _ => ?_)
        clear hK K
        generalize hwe701 : wd.alloc (.cells #[.string x] 22) = wl701 at *
        clear hwe701
        generalize hbe701 : wd.heap.size = bl701 at *
        clear hbe701
        try simp only [Act.put, List.setIfInBounds_toArray, List.set_cons_zero, List.set_cons_succ]
        refine wpAnyH_ready (rs := [6, 13]) (by kernel_rfl) (by simp) ?_
        refine (AllReadyH.cons (o := { dst := some 21, op := Op.call { callee := Callee.builtin Builtin.append, args := #[Operand.tmp 15, Operand.tmp 20], argTypes := #[33, 33] }, type := 33, pos := "map.go:16", after := #[{ on := 0, ground := Ground.data }, { on := 5, ground := Ground.data }], guard := none }) rfl (fun K hK => ?_) (AllReadyH.cons (o := { dst := some 28, op := Op.buildSlice 33 1 #[(0, Operand.tmp 27)], type := 33, pos := "map.go:16", after := #[{ on := 12, ground := Ground.data }], guard := none }) rfl (fun K hK => ?_) AllReadyH.nil))
        · refine step_app rfl _ _ 33 rfl w3.heap.size 22 i0 _ 1 16 Tryz.underlying33 hi0 hiz0 hiz1 hiz2 rfl (by decide) (.slice A4 k c4) k (((evB ps).take k).map Value.string) rfl (unhide HT701).ok (some ⟨bl701, 0, none⟩) 1 1 [.string x] rfl rfl (unhide HL701).at1 (one_str x) (by unfold maxLen; omega) (by omega) (unhide HT701).below.size ?_
          intro v702 w702 hown702 hgrow702 hor702
          have HT702 := hide ((unhide HT701).appK hown702 hgrow702 hor702)
          have fp702 := HF.out _ (unhide HT702).below
          clear hown702 hgrow702 hor702
          refine hK.out _ w702 fp702 (fun _ => ?_)
          clear hK K
          try simp only [Act.put, List.setIfInBounds_toArray, List.set_cons_zero, List.set_cons_succ]
          refine wpAnyH_ready (rs := [13]) (by kernel_rfl) (by simp) ?_
          refine (AllReadyH.cons (o := { dst := some 28, op := Op.buildSlice 33 1 #[(0, Operand.tmp 27)], type := 33, pos := "map.go:16", after := #[{ on := 12, ground := Ground.data }], guard := none }) rfl (fun K hK => ?_) AllReadyH.nil)
          go_simp
          try dsimp only
          have HT703 := hide ((unhide HT702).alloc (.cells #[.string y] 22))
          have HL703 := hide ((unhide HT702).lit #[.string y])
          have HN703 := hide ((unhide HL701).alloc (.cells #[.string y] 22))
          have fp703 := HF.out _ (unhide HT703).below
          refine hK.out _ (w702.alloc (.cells #[.string y] 22)) fp703 (fun _ => ?_)
          clear hK K
          generalize hwe703 : w702.alloc (.cells #[.string y] 22) = wl703 at *
          clear hwe703
          generalize hbe703 : w702.heap.size = bl703 at *
          clear hbe703
          try simp only [Act.put, List.setIfInBounds_toArray, List.set_cons_zero, List.set_cons_succ]
          refine wpAnyH_ready (rs := [14]) (by kernel_rfl) (by simp) ?_
          refine (AllReadyH.cons (o := { dst := some 29, op := Op.call { callee := Callee.builtin Builtin.append, args := #[Operand.tmp 22, Operand.tmp 28], argTypes := #[33, 33] }, type := 33, pos := "map.go:16", after := #[{ on := 7, ground := Ground.data }, { on := 13, ground := Ground.data }, { on := 6, ground := Ground.chain }], guard := none }) rfl (fun K hK => ?_) AllReadyH.nil)
          refine step_app rfl _ _ 33 rfl w3.heap.size 22 i0 _ 1 16 Tryz.underlying33 hi0 hiz0 hiz1 hiz2 rfl (by decide) (.slice A5 k c5) k (((odB ps).take k).map Value.string) rfl (unhide HT703).ov (some ⟨bl703, 0, none⟩) 1 1 [.string y] rfl rfl (unhide HL703).at1 (one_str y) (by unfold maxLen; omega) (by omega) (unhide HT703).below.size ?_
          intro v704 w704 hown704 hgrow704 hor704
          have HT704 := hide ((unhide HT703).appV hown704 hgrow704 hor704)
          have fp704 := HF.out _ (unhide HT704).below
          clear hown704 hgrow704 hor704
          refine hK.out _ w704 fp704 (fun _ => ?_)
          clear hK K
          try simp only [Act.put, List.setIfInBounds_toArray, List.set_cons_zero, List.set_cons_succ]
          refine wpAnyH_take (i := 15) (oi := { dst := some 2, op := Op.assign (Operand.tmp 21), type := 33, pos := "map.go:16", after := #[{ on := 6, ground := Ground.data }, { on := 14, ground := Ground.chain }, { on := 0, ground := Ground.phase }, { on := 1, ground := Ground.phase }, { on := 2, ground := Ground.phase }, { on := 3, ground := Ground.phase }, { on := 4, ground := Ground.phase }, { on := 5, ground := Ground.phase }, { on := 6, ground := Ground.phase }, { on := 7, ground := Ground.textOnly Departure.lateStores }, { on := 8, ground := Ground.textOnly Departure.lateStores }, { on := 9, ground := Ground.textOnly Departure.lateStores }, { on := 10, ground := Ground.textOnly Departure.lateStores }, { on := 11, ground := Ground.textOnly Departure.lateStores }, { on := 12, ground := Ground.textOnly Departure.lateStores }, { on := 13, ground := Ground.textOnly Departure.lateStores }, { on := 14, ground := Ground.textOnly Departure.lateStoresUnsure }], guard := none }) (v := ?_) rfl (by kernel_rfl) (by kernel_rfl) (by kernel_rfl) (fun _ _ _ h => h) (Or.inl ⟨by rfl, ?_⟩) ⟨fp704.1, fp704.2⟩ ?_
          rotate_left 1
          · intro w hSw
            obtain ⟨hSw0, hSw1⟩ := hSw
            go_simp
            first
              | done
              | with_reducible rfl
              | rw [if_neg (by omega)]
          try simp only [Act.put, List.setIfInBounds_toArray, List.set_cons_zero, List.set_cons_succ]
          refine wpAnyH_take (i := 16) (oi := { dst := some 3, op := Op.assign (Operand.tmp 29), type := 33, pos := "map.go:16", after := #[{ on := 14, ground := Ground.data }, { on := 15, ground := Ground.chain }, { on := 0, ground := Ground.phase }, { on := 1, ground := Ground.phase }, { on := 2, ground := Ground.phase }, { on := 3, ground := Ground.phase }, { on := 4, ground := Ground.phase }, { on := 5, ground := Ground.phase }, { on := 6, ground := Ground.phase }, { on := 7, ground := Ground.phase }, { on := 8, ground := Ground.phase }, { on := 9, ground := Ground.phase }, { on := 10, ground := Ground.phase }, { on := 11, ground := Ground.phase }, { on := 12, ground := Ground.phase }, { on := 13, ground := Ground.phase }, { on := 14, ground := Ground.phase }, { on := 15, ground := Ground.phase }], guard := none }) (v := ?_) rfl (by kernel_rfl) (by kernel_rfl) (by kernel_rfl) (fun _ _ _ h => h) (Or.inl ⟨by rfl, ?_⟩) ⟨fp704.1, fp704.2⟩ ?_
          rotate_left 1
          · intro w hSw
            obtain ⟨hSw0, hSw1⟩ := hSw
            go_simp
            first
              | done
              | with_reducible rfl
              | rw [if_neg (by omega)]
          try simp only [Act.put, List.setIfInBounds_toArray, List.set_cons_zero, List.set_cons_succ]
          refine wpAnyH_done (by kernel_rfl) ?_ _
          refine NoPanic.normal ?_
          have HTE := hide (unhide HT704)
          go_wp2_with fail
          go_roundw
          case rel => exact ⟨j + 2, k + 1, by go_num, Lib.hid (by have := hjk.out; omega), by have := hjk.out; omega, by have := unhide HTE; rw [HEV.out.1, HEV.out.2, List.map_append, List.map_append]; exact this⟩
          case measure => simp [intOf]; omega
        · go_simp
          try dsimp only
          have HT705 := hide ((unhide HT701).alloc (.cells #[.string y] 22))
          have HL705 := hide ((unhide HT701).lit #[.string y])
          have HN705 := hide ((unhide HL701).alloc (.cells #[.string y] 22))
          have fp705 := HF.out _ (unhide HT705).below
          refine hK.out _ (wl701.alloc (.cells #[.string y] 22)) fp705 (fun _ => ?_)
          clear hK K
          generalize hwe705 : wl701.alloc (.cells #[.string y] 22) = wl705 at *
          clear hwe705
          generalize hbe705 : wl701.heap.size = bl705 at *
          clear hbe705
          try simp only [Act.put, List.setIfInBounds_toArray, List.set_cons_zero, List.set_cons_succ]
          refine wpAnyH_ready (rs := [6]) (by kernel_rfl) (by simp) ?_
          refine (AllReadyH.cons (o := { dst := some 21, op := Op.call { callee := Callee.builtin Builtin.append, args := #[Operand.tmp 15, Operand.tmp 20], argTypes := #[33, 33] }, type := 33, pos := "map.go:16", after := #[{ on := 0, ground := Ground.data }, { on := 5, ground := Ground.data }], guard := none }) rfl (fun K hK => ?_) AllReadyH.nil)
          refine step_app rfl _ _ 33 rfl w3.heap.size 22 i0 _ 1 16 Tryz.underlying33 hi0 hiz0 hiz1 hiz2 rfl (by decide) (.slice A4 k c4) k (((evB ps).take k).map Value.string) rfl (unhide HT705).ok (some ⟨bl701, 0, none⟩) 1 1 [.string x] rfl rfl (unhide HN705).at1 (one_str x) (by unfold maxLen; omega) (by omega) (unhide HT705).below.size ?_
          intro v706 w706 hown706 hgrow706 hor706
          have HT706 := hide ((unhide HT705).appK hown706 hgrow706 hor706)
          have HN706 := hide ((unhide HL705).appK hgrow706 hor706)
          have fp706 := HF.out _ (unhide HT706).below
          clear hown706 hgrow706 hor706
          refine hK.out _ w706 fp706 (fun _ => ?_)
          clear hK K
          try simp only [Act.put, List.setIfInBounds_toArray, List.set_cons_zero, List.set_cons_succ]
          refine wpAnyH_ready (rs := [14]) (by kernel_rfl) (by simp) ?_
          refine (AllReadyH.cons (o := { dst := some 29, op := Op.call { callee := Callee.builtin Builtin.append, args := #[Operand.tmp 22, Operand.tmp 28], argTypes := #[33, 33] }, type := 33, pos := "map.go:16", after := #[{ on := 7, ground := Ground.data }, { on := 13, ground := Ground.data }, { on := 6, ground := Ground.chain }], guard := none }) rfl (fun K hK => ?_) AllReadyH.nil)
          refine step_app rfl _ _ 33 rfl w3.heap.size 22 i0 _ 1 16 Tryz.underlying33 hi0 hiz0 hiz1 hiz2 rfl (by decide) (.slice A5 k c5) k (((odB ps).take k).map Value.string) rfl (unhide HT706).ov (some ⟨bl705, 0, none⟩) 1 1 [.string y] rfl rfl (unhide HN706).at1 (one_str y) (by unfold maxLen; omega) (by omega) (unhide HT706).below.size ?_
          intro v707 w707 hown707 hgrow707 hor707
          have HT707 := hide ((unhide HT706).appV hown707 hgrow707 hor707)
          have fp707 := HF.out _ (unhide HT707).below
          clear hown707 hgrow707 hor707
          refine hK.out _ w707 fp707 (fun _ => ?_)
          clear hK K
          try simp only [Act.put, List.setIfInBounds_toArray, List.set_cons_zero, List.set_cons_succ]
          refine wpAnyH_take (i := 15) (oi := { dst := some 2, op := Op.assign (Operand.tmp 21), type := 33, pos := "map.go:16", after := #[{ on := 6, ground := Ground.data }, { on := 14, ground := Ground.chain }, { on := 0, ground := Ground.phase }, { on := 1, ground := Ground.phase }, { on := 2, ground := Ground.phase }, { on := 3, ground := Ground.phase }, { on := 4, ground := Ground.phase }, { on := 5, ground := Ground.phase }, { on := 6, ground := Ground.phase }, { on := 7, ground := Ground.textOnly Departure.lateStores }, { on := 8, ground := Ground.textOnly Departure.lateStores }, { on := 9, ground := Ground.textOnly Departure.lateStores }, { on := 10, ground := Ground.textOnly Departure.lateStores }, { on := 11, ground := Ground.textOnly Departure.lateStores }, { on := 12, ground := Ground.textOnly Departure.lateStores }, { on := 13, ground := Ground.textOnly Departure.lateStores }, { on := 14, ground := Ground.textOnly Departure.lateStoresUnsure }], guard := none }) (v := ?_) rfl (by kernel_rfl) (by kernel_rfl) (by kernel_rfl) (fun _ _ _ h => h) (Or.inl ⟨by rfl, ?_⟩) ⟨fp707.1, fp707.2⟩ ?_
          rotate_left 1
          · intro w hSw
            obtain ⟨hSw0, hSw1⟩ := hSw
            go_simp
            first
              | done
              | with_reducible rfl
              | rw [if_neg (by omega)]
          try simp only [Act.put, List.setIfInBounds_toArray, List.set_cons_zero, List.set_cons_succ]
          refine wpAnyH_take (i := 16) (oi := { dst := some 3, op := Op.assign (Operand.tmp 29), type := 33, pos := "map.go:16", after := #[{ on := 14, ground := Ground.data }, { on := 15, ground := Ground.chain }, { on := 0, ground := Ground.phase }, { on := 1, ground := Ground.phase }, { on := 2, ground := Ground.phase }, { on := 3, ground := Ground.phase }, { on := 4, ground := Ground.phase }, { on := 5, ground := Ground.phase }, { on := 6, ground := Ground.phase }, { on := 7, ground := Ground.phase }, { on := 8, ground := Ground.phase }, { on := 9, ground := Ground.phase }, { on := 10, ground := Ground.phase }, { on := 11, ground := Ground.phase }, { on := 12, ground := Ground.phase }, { on := 13, ground := Ground.phase }, { on := 14, ground := Ground.phase }, { on := 15, ground := Ground.phase }], guard := none }) (v := ?_) rfl (by kernel_rfl) (by kernel_rfl) (by kernel_rfl) (fun _ _ _ h => h) (Or.inl ⟨by rfl, ?_⟩) ⟨fp707.1, fp707.2⟩ ?_
          rotate_left 1
          · intro w hSw
            obtain ⟨hSw0, hSw1⟩ := hSw
            go_simp
            first
              | done
              | with_reducible rfl
              | rw [if_neg (by omega)]
          try simp only [Act.put, List.setIfInBounds_toArray, List.set_cons_zero, List.set_cons_succ]
          refine wpAnyH_done (by kernel_rfl) ?_ _
          refine NoPanic.normal ?_
          have HTE := hide (unhide HT707)
          go_wp2_with fail
          go_roundw
          case rel => exact ⟨j + 2, k + 1, by go_num, Lib.hid (by have := hjk.out; omega), by have := hjk.out; omega, by have := unhide HTE; rw [HEV.out.1, HEV.out.2, List.map_append, List.map_append]; exact this⟩
          case measure => simp [intOf]; omega
      · go_simp
        try dsimp only
        have HT708 := hide ((unhide HT).alloc (.cells #[.string y] 22))
        have HL708 := hide ((unhide HT).lit #[.string y])
        have fp708 := HF.out _ (unhide HT708).below
        refine hK.out _ (wd.alloc (.cells #[.string y] 22)) fp708 (fun _ => ?_)
        clear hK K
        generalize hwe708 : wd.alloc (.cells #[.string y] 22) = wl708 at *
        clear hwe708
        generalize hbe708 : wd.heap.size = bl708 at *
        clear hbe708
        try simp only [Act.put, List.setIfInBounds_toArray, List.set_cons_zero, List.set_cons_succ]
        refine wpAnyH_ready (rs := [5]) (by kernel_rfl) (by simp) ?_
        refine (AllReadyH.cons (o := { dst := some 20, op := Op.buildSlice 33 1 #[(0, Operand.tmp 19)], type := 33, pos := "map.go:16", after := #[{ on := 4, ground := Ground.data }], guard := none }) rfl (fun K hK => ?_) AllReadyH.nil)
        go_simp
        try dsimp only
        have HT709 := hide ((unhide HT708).alloc (.cells #[.string x] 22))
        have HL709 := hide ((unhide HT708).lit #[.string x])
        have HN709 := hide ((unhide HL708).alloc (.cells #[.string x] 22))
        have fp709 := HF.out _ (unhide HT709).below
        refine hK.out _ (wl708.alloc (.cells #[.string x] 22)) fp709 (fun _ => ?_)
        clear hK K
        generalize hwe709 : wl708.alloc (.cells #[.string x] 22) = wl709 at *
        clear hwe709
        generalize hbe709 : wl708.heap.size = bl709 at *
        clear hbe709
        try simp only [Act.put, List.setIfInBounds_toArray, List.set_cons_zero, List.set_cons_succ]
        refine wpAnyH_ready (rs := [6]) (by kernel_rfl) (by simp) ?_
        refine (AllReadyH.cons (o := { dst := some 21, op := Op.call { callee := Callee.builtin Builtin.append, args := #[Operand.tmp 15, Operand.tmp 20], argTypes := #[33, 33] }, type := 33, pos := "map.go:16", after := #[{ on := 0, ground := Ground.data }, { on := 5, ground := Ground.data }], guard := none }) rfl (fun K hK => ?_) AllReadyH.nil)
        refine step_app rfl _ _ 33 rfl w3.heap.size 22 i0 _ 1 16 Tryz.underlying33 hi0 hiz0 hiz1 hiz2 rfl (by decide) (.slice A4 k c4) k (((evB ps).take k).map Value.string) rfl (unhide HT709).ok (some ⟨bl709, 0, none⟩) 1 1 [.string x] rfl rfl (unhide HL709).at1 (one_str x) (by unfold maxLen; omega) (by omega) (unhide HT709).below.size ?_
        intro v710 w710 hown710 hgrow710 hor710
        have HT710 := hide ((unhide HT709).appK hown710 hgrow710 hor710)
        have HN710 := hide ((unhide HN709).appK hgrow710 hor710)
        have fp710 := HF.out _ (unhide HT710).below
        clear hown710 hgrow710 hor710
        refine hK.out _ w710 fp710 (fun _ => ?_)
        clear hK K
        try simp only [Act.put, List.setIfInBounds_toArray, List.set_cons_zero, List.set_cons_succ]
        refine wpAnyH_ready (rs := [14]) (by kernel_rfl) (by simp) ?_
        refine (AllReadyH.cons (o := { dst := some 29, op := Op.call { callee := Callee.builtin Builtin.append, args := #[Operand.tmp 22, Operand.tmp 28], argTypes := #[33, 33] }, type := 33, pos := "map.go:16", after := #[{ on := 7, ground := Ground.data }, { on := 13, ground := Ground.data }, { on := 6, ground := Ground.chain }], guard := none }) rfl (fun K hK => ?_) AllReadyH.nil)
        refine step_app rfl _ _ 33 rfl w3.heap.size 22 i0 _ 1 16 Tryz.underlying33 hi0 hiz0 hiz1 hiz2 rfl (by decide) (.slice A5 k c5) k (((odB ps).take k).map Value.string) rfl (unhide HT710).ov (some ⟨bl708, 0, none⟩) 1 1 [.string y] rfl rfl (unhide HN710).at1 (one_str y) (by unfold maxLen; omega) (by omega) (unhide HT710).below.size ?_
        intro v711 w711 hown711 hgrow711 hor711
        have HT711 := hide ((unhide HT710).appV hown711 hgrow711 hor711)
        have fp711 := HF.out _ (unhide HT711).below
        clear hown711 hgrow711 hor711
        refine hK.out _ w711 fp711 (fun _ => ?_)
        clear hK K
        try simp only [Act.put, List.setIfInBounds_toArray, List.set_cons_zero, List.set_cons_succ]
        refine wpAnyH_take (i := 15) (oi := { dst := some 2, op := Op.assign (Operand.tmp 21), type := 33, pos := "map.go:16", after := #[{ on := 6, ground := Ground.data }, { on := 14, ground := Ground.chain }, { on := 0, ground := Ground.phase }, { on := 1, ground := Ground.phase }, { on := 2, ground := Ground.phase }, { on := 3, ground := Ground.phase }, { on := 4, ground := Ground.phase }, { on := 5, ground := Ground.phase }, { on := 6, ground := Ground.phase }, { on := 7, ground := Ground.textOnly Departure.lateStores }, { on := 8, ground := Ground.textOnly Departure.lateStores }, { on := 9, ground := Ground.textOnly Departure.lateStores }, { on := 10, ground := Ground.textOnly Departure.lateStores }, { on := 11, ground := Ground.textOnly Departure.lateStores }, { on := 12, ground := Ground.textOnly Departure.lateStores }, { on := 13, ground := Ground.textOnly Departure.lateStores }, { on := 14, ground := Ground.textOnly Departure.lateStoresUnsure }], guard := none }) (v := ?_) rfl (by kernel_rfl) (by kernel_rfl) (by kernel_rfl) (fun _ _ _ h => h) (Or.inl ⟨by rfl, ?_⟩) ⟨fp711.1, fp711.2⟩ ?_
        rotate_left 1
        · intro w hSw
          obtain ⟨hSw0, hSw1⟩ := hSw
          go_simp
          first
            | done
            | with_reducible rfl
            | rw [if_neg (by omega)]
        try simp only [Act.put, List.setIfInBounds_toArray, List.set_cons_zero, List.set_cons_succ]
        refine wpAnyH_take (i := 16) (oi := { dst := some 3, op := Op.assign (Operand.tmp 29), type := 33, pos := "map.go:16", after := #[{ on := 14, ground := Ground.data }, { on := 15, ground := Ground.chain }, { on := 0, ground := Ground.phase }, { on := 1, ground := Ground.phase }, { on := 2, ground := Ground.phase }, { on := 3, ground := Ground.phase }, { on := 4, ground := Ground.phase }, { on := 5, ground := Ground.phase }, { on := 6, ground := Ground.phase }, { on := 7, ground := Ground.phase }, { on := 8, ground := Ground.phase }, { on := 9, ground := Ground.phase }, { on := 10, ground := Ground.phase }, { on := 11, ground := Ground.phase }, { on := 12, ground := Ground.phase }, { on := 13, ground := Ground.phase }, { on := 14, ground := Ground.phase }, { on := 15, ground := Ground.phase }], guard := none }) (v := ?_) rfl (by kernel_rfl) (by kernel_rfl) (by kernel_rfl) (fun _ _ _ h => h) (Or.inl ⟨by rfl, ?_⟩) ⟨fp711.1, fp711.2⟩ ?_
        rotate_left 1
        · intro w hSw
          obtain ⟨hSw0, hSw1⟩ := hSw
          go_simp
          first
            | done
            | with_reducible rfl
            | rw [if_neg (by omega)]
        try simp only [Act.put, List.setIfInBounds_toArray, List.set_cons_zero, List.set_cons_succ]
        refine wpAnyH_done (by kernel_rfl) ?_ _
        refine NoPanic.normal ?_
        have HTE := hide (unhide HT711)
        go_wp2_with fail
        go_roundw
        case rel => exact ⟨j + 2, k + 1, by go_num, Lib.hid (by have := hjk.out; omega), by have := hjk.out; omega, by have := unhide HTE; rw [HEV.out.1, HEV.out.2, List.map_append, List.map_append]; exact this⟩
        case measure => simp [intOf]; omega
    · have hk2 : j = n3 := by omega
      have HE1 : Hid ((evB ps).take k = evB ps) := Lib.hid (List.take_of_length_le (by have := ev_len HEVN.out; have := HN3.out; have := hjk.out; omega))
      have HE2 : Hid ((odB ps).take k = odB ps) := Lib.hid (List.take_of_length_le (by have := ev_len HEVN.out; have := HN3.out; have := hjk.out; rw [od_len]; omega))
      have HK : Hid (k = (evB ps).length) := Lib.hid (by have := ev_len HEVN.out; have := HN3.out; have := hjk.out; omega)
      rw [HE1.out, HE2.out] at HTw
      go_wp2_with fail
      go_ret2
      exact ⟨A4, A5, c4, c5, k, k, rfl, HK.out, HK.out.trans od_len.symm, two_below (unhide HB3) (unhide HTw)⟩
set_option linter.unusedSimpArgs false in
set_option maxRecDepth 100000 in
set_option maxHeartbeats 6400000 in
theorem rkeyed_any (s : ByteArray) (hs : s.size ≤ 281474976710656) (h6 : (pt s).length % 2 = 0) (w : World) :
    Calls Tryz.prog 66 #[.string s] w (RowRR w (evB (pt s)) (odB (pt s))) := by
  have HPX := Lib.hid (fun w => rpartsO_any s hs w)
  have HLE := Lib.hid (pt_len s)
  have HEVN : Hid ((pt s).length % 2 = 0) := Lib.hid h6
  generalize pt s = ps at *
  obtain ⟨i0, hi0, hiz0, hiz1, hiz2⟩ := info_parts val_info
  clear h6
  go_enter Tryz.func66, Tryz.ntmps66
  go_wp2_with fail
  refine (HPX.out _).mono ?_
  rintro e w3 ⟨S3, c3, n3, rfl, hn3, hO3, hb3⟩
  have HB3 := hide hb3
  have HN3 := Lib.hid hn3
  have hn6 : n3 ≤ 65536 := by rw [hn3]; exact HLE.out
  have hne : n3 % 2 = 0 := by rw [hn3]; exact HEVN.out
  have HI3 := hide (InC.own hO3)
  clear hb3 hn3 hO3
  go_wp2_with fail
  go_loopw [2, 3, 5] (fun kv vv iv wr => ∃ (j k : Nat), iv = .int .i64 j ∧ Hid (j = 2 * k) ∧ j ≤ n3 ∧ Hid (TwoR w3 wr kv vv k k (((evB ps).take k).map Value.string) (((odB ps).take k).map Value.string))) (fun _ _ iv _ => n3 - (intOf iv).toNat)
  case atStart => exact ⟨0, 0, rfl, Lib.hid rfl, by omega, by rw [List.take_zero, List.take_zero]; exact TwoR.start _⟩
  case round =>
    obtain ⟨j, k, rfl, hjk, hj, hT⟩ := hrel
    obtain ⟨A4, c4, rfl⟩ := owns_form hT.out.ok
    obtain ⟨A5, c5, rfl⟩ := owns_form hT.out.ov
    have HTw := hide hT.out
    clear hT
    by_cases hjL : j < n3
    · obtain ⟨x, hx⟩ : ∃ x, ps[j]? = some x := ⟨ps[j]'(by have := HN3.out; omega), List.getElem?_eq_getElem _⟩
      obtain ⟨y, hy⟩ : ∃ y, ps[j + 1]? = some y := ⟨ps[j + 1]'(by have := HN3.out; have := hjk.out; omega), List.getElem?_eq_getElem _⟩
      have HEV := Lib.hid (ev_step hjk.out hx hy)
      obtain ⟨b9, o9, hS3, hb5, hc5⟩ := at1s (unhide HI3) (i := j) (u := .string x) (by rw [List.getElem?_map, hx]; rfl)
      obtain ⟨b, o5, hS4, hb6, hc6⟩ := at1s (unhide HI3) (i := j + 1) (u := .string y) (by rw [List.getElem?_map, hy]; rfl)
      obtain ⟨rfl, rfl⟩ : b = b9 ∧ o5 = o9 := by
        rw [hS3] at hS4
        injection hS4 with h1
        injection h1 with h2 h3
        exact ⟨h2.symm, h3.symm⟩
      subst hS3
      have HF := Lib.hid (fun W (h : Below w3.heap.size w3 W) => (⟨(h.cell (p := ⟨b, o5 + j, none⟩) hb5).trans hc5, (h.cell (p := ⟨b, o5 + (j + 1), none⟩) hb6).trans hc6⟩ : W.cell? ⟨b, o5 + j, none⟩ = some (.string x) ∧ W.cell? ⟨b, o5 + (j + 1), none⟩ = some (.string y)))
      have hj2 : j + 1 < n3 := by have := hjk.out; omega
      obtain ⟨j1, hj1⟩ : ∃ j1, j + 1 = j1 := ⟨_, rfl⟩
      rw [hj1] at HF hj2
      have gw : IntKind.i64.wrap ((j : Int) + 1) = (j1 : Int) := by rw [IntWalk.i64_in _ (by omega)]; omega
      clear hj1
      have hk6 : k ≤ 65536 := by have := hjk.out; omega
      clear hx hy hb5 hc5 hb6 hc6 hS4
      go_wp2_with fail
      have HT := hide (unhide HTw).drew
      clear HTw
      have fd0 : Hid (wr.drew.cell? ⟨b, o5 + j, none⟩ = some (.string x)) := (HF.out _ (unhide HT).below).1
      have fd1 : Hid (wr.drew.cell? ⟨b, o5 + j1, none⟩ = some (.string y)) := (HF.out _ (unhide HT).below).2
      refine wp_region_noPanic ?_
      refine wp_region_held_drew (S := fun W => W.cell? ⟨b, o5 + j, none⟩ = some (.string x) ∧ W.cell? ⟨b, o5 + j1, none⟩ = some (.string y)) (by kernel_rfl) ⟨fd0, fd1⟩ (fun _ => ?_)
      generalize wr.drew = wd at *
      try simp only [Act.put, List.setIfInBounds_toArray, List.set_cons_zero, List.set_cons_succ]
      refine wpAnyH_take (i := 0) (oi := { dst := some 14, op := Op.move (Operand.tmp 2), type := 33, pos := "finset.go:187", after := #[], guard := none }) (v := ?_) rfl (by kernel_rfl) (by kernel_rfl) (by kernel_rfl) (fun _ _ _ h => h) (Or.inl ⟨by rfl, ?_⟩) ⟨fd0, fd1⟩ ?_
      rotate_left 1
      · intro w hSw
        obtain ⟨hSw0, hSw1⟩ := hSw
        go_simp
        first
          | done
          | with_reducible rfl
          | rw [if_neg (by omega)]
      try simp only [Act.put, List.setIfInBounds_toArray, List.set_cons_zero, List.set_cons_succ]
      refine wpAnyH_take (i := 1) (oi := { dst := some 15, op := Op.move (Operand.tmp 4), type := 33, pos := "finset.go:187", after := #[], guard := none }) (v := ?_) rfl (by kernel_rfl) (by kernel_rfl) (by kernel_rfl) (fun _ _ _ h => h) (Or.inl ⟨by rfl, ?_⟩) ⟨fd0, fd1⟩ ?_
      rotate_left 1
      · intro w hSw
        obtain ⟨hSw0, hSw1⟩ := hSw
        go_simp
        first
          | done
          | with_reducible rfl
          | rw [if_neg (by omega)]
      try simp only [Act.put, List.setIfInBounds_toArray, List.set_cons_zero, List.set_cons_succ]
      refine wpAnyH_take (i := 2) (oi := { dst := some 16, op := Op.move (Operand.tmp 5), type := 3, pos := "finset.go:187", after := #[], guard := none }) (v := ?_) rfl (by kernel_rfl) (by kernel_rfl) (by kernel_rfl) (fun _ _ _ h => h) (Or.inl ⟨by rfl, ?_⟩) ⟨fd0, fd1⟩ ?_
      rotate_left 1
      · intro w hSw
        obtain ⟨hSw0, hSw1⟩ := hSw
        go_simp
        first
          | done
          | with_reducible rfl
          | rw [if_neg (by omega)]
      try simp only [Act.put, List.setIfInBounds_toArray, List.set_cons_zero, List.set_cons_succ]
      refine wpAnyH_take (i := 3) (oi := { dst := some 17, op := Op.indexAddr 33 (Operand.tmp 15) (Operand.tmp 16), type := 0, pos := "finset.go:187", after := #[{ on := 1, ground := Ground.data }, { on := 2, ground := Ground.data }], guard := none }) (v := ?_) rfl (by kernel_rfl) (by kernel_rfl) (by kernel_rfl) (fun _ _ _ h => h) (Or.inl ⟨by rfl, ?_⟩) ⟨fd0, fd1⟩ ?_
      rotate_left 1
      · intro w hSw
        obtain ⟨hSw0, hSw1⟩ := hSw
        go_simp
        first
          | done
          | with_reducible rfl
          | rw [if_neg (by omega)]
      try simp only [Act.put, List.setIfInBounds_toArray, List.set_cons_zero, List.set_cons_succ]
      refine wpAnyH_take (i := 4) (oi := { dst := some 18, op := Op.load 22 (Operand.tmp 17), type := 22, pos := "finset.go:187", after := #[{ on := 3, ground := Ground.data }], guard := none }) (v := ?_) rfl (by kernel_rfl) (by kernel_rfl) (by kernel_rfl) (fun _ _ _ h => h) (Or.inl ⟨by rfl, ?_⟩) ⟨fd0, fd1⟩ ?_
      rotate_left 1
      · intro w hSw
        obtain ⟨hSw0, hSw1⟩ := hSw
        go_simp
        first
          | done
          | with_reducible rfl
          | rw [if_neg (by omega)]
      try simp only [Act.put, List.setIfInBounds_toArray, List.set_cons_zero, List.set_cons_succ]
      refine wpAnyH_take (i := 7) (oi := { dst := some 21, op := Op.move (Operand.tmp 3), type := 33, pos := "finset.go:187", after := #[], guard := none }) (v := ?_) rfl (by kernel_rfl) (by kernel_rfl) (by kernel_rfl) (fun _ _ _ h => h) (Or.inl ⟨by rfl, ?_⟩) ⟨fd0, fd1⟩ ?_
      rotate_left 1
      · intro w hSw
        obtain ⟨hSw0, hSw1⟩ := hSw
        go_simp
        first
          | done
          | with_reducible rfl
          | rw [if_neg (by omega)]
      try simp only [Act.put, List.setIfInBounds_toArray, List.set_cons_zero, List.set_cons_succ]
      refine wpAnyH_take (i := 8) (oi := { dst := some 22, op := Op.move (Operand.tmp 4), type := 33, pos := "finset.go:187", after := #[], guard := none }) (v := ?_) rfl (by kernel_rfl) (by kernel_rfl) (by kernel_rfl) (fun _ _ _ h => h) (Or.inl ⟨by rfl, ?_⟩) ⟨fd0, fd1⟩ ?_
      rotate_left 1
      · intro w hSw
        obtain ⟨hSw0, hSw1⟩ := hSw
        go_simp
        first
          | done
          | with_reducible rfl
          | rw [if_neg (by omega)]
      try simp only [Act.put, List.setIfInBounds_toArray, List.set_cons_zero, List.set_cons_succ]
      refine wpAnyH_take (i := 9) (oi := { dst := some 23, op := Op.move (Operand.tmp 5), type := 3, pos := "finset.go:187", after := #[], guard := none }) (v := ?_) rfl (by kernel_rfl) (by kernel_rfl) (by kernel_rfl) (fun _ _ _ h => h) (Or.inl ⟨by rfl, ?_⟩) ⟨fd0, fd1⟩ ?_
      rotate_left 1
      · intro w hSw
        obtain ⟨hSw0, hSw1⟩ := hSw
        go_simp
        first
          | done
          | with_reducible rfl
          | rw [if_neg (by omega)]
      try simp only [Act.put, List.setIfInBounds_toArray, List.set_cons_zero, List.set_cons_succ]
      refine wpAnyH_take (i := 10) (oi := { dst := some 24, op := Op.binOp BinOp.add 3 (Operand.tmp 23) (Operand.const (Value.int IntKind.i64 1)) 3, type := 3, pos := "finset.go:187", after := #[{ on := 9, ground := Ground.data }], guard := none }) (v := .int .i64 (j1 : Int)) rfl (by kernel_rfl) (by kernel_rfl) (by kernel_rfl) (fun _ _ _ h => h) (Or.inl ⟨by rfl, ?_⟩) ⟨fd0, fd1⟩ ?_
      · intro w hSw
        go_simp
        try rw [gw]
        try rfl
      try simp only [Act.put, List.setIfInBounds_toArray, List.set_cons_zero, List.set_cons_succ]
      refine wpAnyH_take (i := 11) (oi := { dst := some 25, op := Op.indexAddr 33 (Operand.tmp 22) (Operand.tmp 24), type := 0, pos := "finset.go:187", after := #[{ on := 8, ground := Ground.data }, { on := 10, ground := Ground.data }], guard := none }) (v := ?_) rfl (by kernel_rfl) (by kernel_rfl) (by kernel_rfl) (fun _ _ _ h => h) (Or.inl ⟨by rfl, ?_⟩) ⟨fd0, fd1⟩ ?_
      rotate_left 1
      · intro w hSw
        obtain ⟨hSw0, hSw1⟩ := hSw
        go_simp
        first
          | done
          | with_reducible rfl
          | rw [if_neg (by omega)]
      try simp only [Act.put, List.setIfInBounds_toArray, List.set_cons_zero, List.set_cons_succ]
      refine wpAnyH_take (i := 12) (oi := { dst := some 26, op := Op.load 22 (Operand.tmp 25), type := 22, pos := "finset.go:187", after := #[{ on := 11, ground := Ground.data }], guard := none }) (v := ?_) rfl (by kernel_rfl) (by kernel_rfl) (by kernel_rfl) (fun _ _ _ h => h) (Or.inl ⟨by rfl, ?_⟩) ⟨fd0, fd1⟩ ?_
      rotate_left 1
      · intro w hSw
        obtain ⟨hSw0, hSw1⟩ := hSw
        go_simp
        first
          | done
          | with_reducible rfl
          | rw [if_neg (by omega)]
      try simp only [Act.put, List.setIfInBounds_toArray, List.set_cons_zero, List.set_cons_succ]
      refine wpAnyH_ready (rs := [5, 13]) (by kernel_rfl) (by simp) ?_
      refine (AllReadyH.cons (o := { dst := some 19, op := Op.buildSlice 33 1 #[(0, Operand.tmp 18)], type := 33, pos := "finset.go:187", after := #[{ on := 4, ground := Ground.data }], guard := none }) rfl (fun K hK => ?_) (AllReadyH.cons (o := { dst := some 27, op := Op.buildSlice 33 1 #[(0, Operand.tmp 26)], type := 33, pos := "finset.go:187", after := #[{ on := 12, ground := Ground.data }], guard := none }) rfl (fun K hK => ?_) AllReadyH.nil))
      · go_simp
        try dsimp only
        have HT712 := hide ((unhide HT).alloc (.cells #[.string x] 22))
        have HL712 := hide ((unhide HT).lit #[.string x])
        have fp712 := HF.out _ (unhide HT712).below
        refine hK.out _ (wd.alloc (.cells #[.string x] 22)) fp712 (fun _ => ?_)
        clear hK K
        generalize hwe712 : wd.alloc (.cells #[.string x] 22) = wl712 at *
        clear hwe712
        generalize hbe712 : wd.heap.size = bl712 at *
        clear hbe712
        try simp only [Act.put, List.setIfInBounds_toArray, List.set_cons_zero, List.set_cons_succ]
        refine wpAnyH_ready (rs := [6, 13]) (by kernel_rfl) (by simp) ?_
        refine (AllReadyH.cons (o := { dst := some 20, op := Op.call { callee := Callee.builtin Builtin.append, args := #[Operand.tmp 14, Operand.tmp 19], argTypes := #[33, 33] }, type := 33, pos := "finset.go:187", after := #[{ on := 0, ground := Ground.data }, { on := 5, ground := Ground.data }], guard := none }) rfl (fun K hK => ?_) (AllReadyH.cons (o := { dst := some 27, op := Op.buildSlice 33 1 #[(0, Operand.tmp 26)], type := 33, pos := "finset.go:187", after := #[{ on := 12, ground := Ground.data }], guard := none }) rfl (fun K hK => ?_) AllReadyH.nil))
        · refine step_app rfl _ _ 33 rfl w3.heap.size 22 i0 _ 1 16 Tryz.underlying33 hi0 hiz0 hiz1 hiz2 rfl (by decide) (.slice A4 k c4) k (((evB ps).take k).map Value.string) rfl (unhide HT712).ok (some ⟨bl712, 0, none⟩) 1 1 [.string x] rfl rfl (unhide HL712).at1 (one_str x) (by unfold maxLen; omega) (by omega) (unhide HT712).below.size ?_
          intro v713 w713 hown713 hgrow713 hor713
          have HT713 := hide ((unhide HT712).appK hown713 hgrow713 hor713)
          have fp713 := HF.out _ (unhide HT713).below
          clear hown713 hgrow713 hor713
          refine hK.out _ w713 fp713 (fun _ => ?_)
          clear hK K
          try simp only [Act.put, List.setIfInBounds_toArray, List.set_cons_zero, List.set_cons_succ]
          refine wpAnyH_ready (rs := [13]) (by kernel_rfl) (by simp) ?_
          refine (AllReadyH.cons (o := { dst := some 27, op := Op.buildSlice 33 1 #[(0, Operand.tmp 26)], type := 33, pos := "finset.go:187", after := #[{ on := 12, ground := Ground.data }], guard := none }) rfl (fun K hK => ?_) AllReadyH.nil)
          go_simp
          try dsimp only
          have HT714 := hide ((unhide HT713).alloc (.cells #[.string y] 22))
          have HL714 := hide ((unhide HT713).lit #[.string y])
          have HN714 := hide ((unhide HL712).alloc (.cells #[.string y] 22))
          have fp714 := HF.out _ (unhide HT714).below
          refine hK.out _ (w713.alloc (.cells #[.string y] 22)) fp714 (fun _ => ?_)
          clear hK K
          generalize hwe714 : w713.alloc (.cells #[.string y] 22) = wl714 at *
          clear hwe714
          generalize hbe714 : w713.heap.size = bl714 at *
          clear hbe714
          try simp only [Act.put, List.setIfInBounds_toArray, List.set_cons_zero, List.set_cons_succ]
          refine wpAnyH_ready (rs := [14]) (by kernel_rfl) (by simp) ?_
          refine (AllReadyH.cons (o := { dst := some 28, op := Op.call { callee := Callee.builtin Builtin.append, args := #[Operand.tmp 21, Operand.tmp 27], argTypes := #[33, 33] }, type := 33, pos := "finset.go:187", after := #[{ on := 7, ground := Ground.data }, { on := 13, ground := Ground.data }, { on := 6, ground := Ground.chain }], guard := none }) rfl (fun K hK => ?_) AllReadyH.nil)
          refine step_app rfl _ _ 33 rfl w3.heap.size 22 i0 _ 1 16 Tryz.underlying33 hi0 hiz0 hiz1 hiz2 rfl (by decide) (.slice A5 k c5) k (((odB ps).take k).map Value.string) rfl (unhide HT714).ov (some ⟨bl714, 0, none⟩) 1 1 [.string y] rfl rfl (unhide HL714).at1 (one_str y) (by unfold maxLen; omega) (by omega) (unhide HT714).below.size ?_
          intro v715 w715 hown715 hgrow715 hor715
          have HT715 := hide ((unhide HT714).appV hown715 hgrow715 hor715)
          have fp715 := HF.out _ (unhide HT715).below
          clear hown715 hgrow715 hor715
          refine hK.out _ w715 fp715 (fun _ => ?_)
          clear hK K
          try simp only [Act.put, List.setIfInBounds_toArray, List.set_cons_zero, List.set_cons_succ]
          refine wpAnyH_take (i := 15) (oi := { dst := some 2, op := Op.assign (Operand.tmp 20), type := 33, pos := "finset.go:187", after := #[{ on := 6, ground := Ground.data }, { on := 14, ground := Ground.chain }, { on := 0, ground := Ground.phase }, { on := 1, ground := Ground.phase }, { on := 2, ground := Ground.phase }, { on := 3, ground := Ground.phase }, { on := 4, ground := Ground.phase }, { on := 5, ground := Ground.phase }, { on := 6, ground := Ground.phase }, { on := 7, ground := Ground.textOnly Departure.lateStores }, { on := 8, ground := Ground.textOnly Departure.lateStores }, { on := 9, ground := Ground.textOnly Departure.lateStores }, { on := 10, ground := Ground.textOnly Departure.lateStores }, { on := 11, ground := Ground.textOnly Departure.lateStores }, { on := 12, ground := Ground.textOnly Departure.lateStores }, { on := 13, ground := Ground.textOnly Departure.lateStores }, { on := 14, ground := Ground.textOnly Departure.lateStoresUnsure }], guard := none }) (v := ?_) rfl (by kernel_rfl) (by kernel_rfl) (by kernel_rfl) (fun _ _ _ h => h) (Or.inl ⟨by rfl, ?_⟩) ⟨fp715.1, fp715.2⟩ ?_
          rotate_left 1
          · intro w hSw
            obtain ⟨hSw0, hSw1⟩ := hSw
            go_simp
            first
              | done
              | with_reducible rfl
              | rw [if_neg (by omega)]
          try simp only [Act.put, List.setIfInBounds_toArray, List.set_cons_zero, List.set_cons_succ]
          refine wpAnyH_take (i := 16) (oi := { dst := some 3, op := Op.assign (Operand.tmp 28), type := 33, pos := "finset.go:187", after := #[{ on := 14, ground := Ground.data }, { on := 15, ground := Ground.chain }, { on := 0, ground := Ground.phase }, { on := 1, ground := Ground.phase }, { on := 2, ground := Ground.phase }, { on := 3, ground := Ground.phase }, { on := 4, ground := Ground.phase }, { on := 5, ground := Ground.phase }, { on := 6, ground := Ground.phase }, { on := 7, ground := Ground.phase }, { on := 8, ground := Ground.phase }, { on := 9, ground := Ground.phase }, { on := 10, ground := Ground.phase }, { on := 11, ground := Ground.phase }, { on := 12, ground := Ground.phase }, { on := 13, ground := Ground.phase }, { on := 14, ground := Ground.phase }, { on := 15, ground := Ground.phase }], guard := none }) (v := ?_) rfl (by kernel_rfl) (by kernel_rfl) (by kernel_rfl) (fun _ _ _ h => h) (Or.inl ⟨by rfl, ?_⟩) ⟨fp715.1, fp715.2⟩ ?_
          rotate_left 1
          · intro w hSw
            obtain ⟨hSw0, hSw1⟩ := hSw
            go_simp
            first
              | done
              | with_reducible rfl
              | rw [if_neg (by omega)]
          try simp only [Act.put, List.setIfInBounds_toArray, List.set_cons_zero, List.set_cons_succ]
          refine wpAnyH_done (by kernel_rfl) ?_ _
          refine NoPanic.normal ?_
          have HTE := hide (unhide HT715)
          go_wp2_with fail
          go_roundw
          case rel => exact ⟨j + 2, k + 1, by go_num, Lib.hid (by have := hjk.out; omega), by have := hjk.out; omega, by have := unhide HTE; rw [HEV.out.1, HEV.out.2, List.map_append, List.map_append]; exact this⟩
          case measure => simp [intOf]; omega
        · go_simp
          try dsimp only
          have HT716 := hide ((unhide HT712).alloc (.cells #[.string y] 22))
          have HL716 := hide ((unhide HT712).lit #[.string y])
          have HN716 := hide ((unhide HL712).alloc (.cells #[.string y] 22))
          have fp716 := HF.out _ (unhide HT716).below
          refine hK.out _ (wl712.alloc (.cells #[.string y] 22)) fp716 (fun _ => ?_)
          clear hK K
          generalize hwe716 : wl712.alloc (.cells #[.string y] 22) = wl716 at *
          clear hwe716
          generalize hbe716 : wl712.heap.size = bl716 at *
          clear hbe716
          try simp only [Act.put, List.setIfInBounds_toArray, List.set_cons_zero, List.set_cons_succ]
          refine wpAnyH_ready (rs := [6]) (by kernel_rfl) (by simp) ?_
          refine (AllReadyH.cons (o := { dst := some 20, op := Op.call { callee := Callee.builtin Builtin.append, args := #[Operand.tmp 14, Operand.tmp 19], argTypes := #[33, 33] }, type := 33, pos := "finset.go:187", after := #[{ on := 0, ground := Ground.data }, { on := 5, ground := Ground.data }], guard := none }) rfl (fun K hK => ?_) AllReadyH.nil)
          refine step_app rfl _ _ 33 rfl w3.heap.size 22 i0 _ 1 16 Tryz.underlying33 hi0 hiz0 hiz1 hiz2 rfl (by decide) (.slice A4 k c4) k (((evB ps).take k).map Value.string) rfl (unhide HT716).ok (some ⟨bl712, 0, none⟩) 1 1 [.string x] rfl rfl (unhide HN716).at1 (one_str x) (by unfold maxLen; omega) (by omega) (unhide HT716).below.size ?_
          intro v717 w717 hown717 hgrow717 hor717
          have HT717 := hide ((unhide HT716).appK hown717 hgrow717 hor717)
          have HN717 := hide ((unhide HL716).appK hgrow717 hor717)
          have fp717 := HF.out _ (unhide HT717).below
          clear hown717 hgrow717 hor717
          refine hK.out _ w717 fp717 (fun _ => ?_)
          clear hK K
          try simp only [Act.put, List.setIfInBounds_toArray, List.set_cons_zero, List.set_cons_succ]
          refine wpAnyH_ready (rs := [14]) (by kernel_rfl) (by simp) ?_
          refine (AllReadyH.cons (o := { dst := some 28, op := Op.call { callee := Callee.builtin Builtin.append, args := #[Operand.tmp 21, Operand.tmp 27], argTypes := #[33, 33] }, type := 33, pos := "finset.go:187", after := #[{ on := 7, ground := Ground.data }, { on := 13, ground := Ground.data }, { on := 6, ground := Ground.chain }], guard := none }) rfl (fun K hK => ?_) AllReadyH.nil)
          refine step_app rfl _ _ 33 rfl w3.heap.size 22 i0 _ 1 16 Tryz.underlying33 hi0 hiz0 hiz1 hiz2 rfl (by decide) (.slice A5 k c5) k (((odB ps).take k).map Value.string) rfl (unhide HT717).ov (some ⟨bl716, 0, none⟩) 1 1 [.string y] rfl rfl (unhide HN717).at1 (one_str y) (by unfold maxLen; omega) (by omega) (unhide HT717).below.size ?_
          intro v718 w718 hown718 hgrow718 hor718
          have HT718 := hide ((unhide HT717).appV hown718 hgrow718 hor718)
          have fp718 := HF.out _ (unhide HT718).below
          clear hown718 hgrow718 hor718
          refine hK.out _ w718 fp718 (fun _ => ?_)
          clear hK K
          try simp only [Act.put, List.setIfInBounds_toArray, List.set_cons_zero, List.set_cons_succ]
          refine wpAnyH_take (i := 15) (oi := { dst := some 2, op := Op.assign (Operand.tmp 20), type := 33, pos := "finset.go:187", after := #[{ on := 6, ground := Ground.data }, { on := 14, ground := Ground.chain }, { on := 0, ground := Ground.phase }, { on := 1, ground := Ground.phase }, { on := 2, ground := Ground.phase }, { on := 3, ground := Ground.phase }, { on := 4, ground := Ground.phase }, { on := 5, ground := Ground.phase }, { on := 6, ground := Ground.phase }, { on := 7, ground := Ground.textOnly Departure.lateStores }, { on := 8, ground := Ground.textOnly Departure.lateStores }, { on := 9, ground := Ground.textOnly Departure.lateStores }, { on := 10, ground := Ground.textOnly Departure.lateStores }, { on := 11, ground := Ground.textOnly Departure.lateStores }, { on := 12, ground := Ground.textOnly Departure.lateStores }, { on := 13, ground := Ground.textOnly Departure.lateStores }, { on := 14, ground := Ground.textOnly Departure.lateStoresUnsure }], guard := none }) (v := ?_) rfl (by kernel_rfl) (by kernel_rfl) (by kernel_rfl) (fun _ _ _ h => h) (Or.inl ⟨by rfl, ?_⟩) ⟨fp718.1, fp718.2⟩ ?_
          rotate_left 1
          · intro w hSw
            obtain ⟨hSw0, hSw1⟩ := hSw
            go_simp
            first
              | done
              | with_reducible rfl
              | rw [if_neg (by omega)]
          try simp only [Act.put, List.setIfInBounds_toArray, List.set_cons_zero, List.set_cons_succ]
          refine wpAnyH_take (i := 16) (oi := { dst := some 3, op := Op.assign (Operand.tmp 28), type := 33, pos := "finset.go:187", after := #[{ on := 14, ground := Ground.data }, { on := 15, ground := Ground.chain }, { on := 0, ground := Ground.phase }, { on := 1, ground := Ground.phase }, { on := 2, ground := Ground.phase }, { on := 3, ground := Ground.phase }, { on := 4, ground := Ground.phase }, { on := 5, ground := Ground.phase }, { on := 6, ground := Ground.phase }, { on := 7, ground := Ground.phase }, { on := 8, ground := Ground.phase }, { on := 9, ground := Ground.phase }, { on := 10, ground := Ground.phase }, { on := 11, ground := Ground.phase }, { on := 12, ground := Ground.phase }, { on := 13, ground := Ground.phase }, { on := 14, ground := Ground.phase }, { on := 15, ground := Ground.phase }], guard := none }) (v := ?_) rfl (by kernel_rfl) (by kernel_rfl) (by kernel_rfl) (fun _ _ _ h => h) (Or.inl ⟨by rfl, ?_⟩) ⟨fp718.1, fp718.2⟩ ?_
          rotate_left 1
          · intro w hSw
            obtain ⟨hSw0, hSw1⟩ := hSw
            go_simp
            first
              | done
              | with_reducible rfl
              | rw [if_neg (by omega)]
          try simp only [Act.put, List.setIfInBounds_toArray, List.set_cons_zero, List.set_cons_succ]
          refine wpAnyH_done (by kernel_rfl) ?_ _
          refine NoPanic.normal ?_
          have HTE := hide (unhide HT718)
          go_wp2_with fail
          go_roundw
          case rel => exact ⟨j + 2, k + 1, by go_num, Lib.hid (by have := hjk.out; omega), by have := hjk.out; omega, by have := unhide HTE; rw [HEV.out.1, HEV.out.2, List.map_append, List.map_append]; exact this⟩
          case measure => simp [intOf]; omega
      · go_simp
        try dsimp only
        have HT719 := hide ((unhide HT).alloc (.cells #[.string y] 22))
        have HL719 := hide ((unhide HT).lit #[.string y])
        have fp719 := HF.out _ (unhide HT719).below
        refine hK.out _ (wd.alloc (.cells #[.string y] 22)) fp719 (fun _ => ?_)
        clear hK K
        generalize hwe719 : wd.alloc (.cells #[.string y] 22) = wl719 at *
        clear hwe719
        generalize hbe719 : wd.heap.size = bl719 at *
        clear hbe719
        try simp only [Act.put, List.setIfInBounds_toArray, List.set_cons_zero, List.set_cons_succ]
        refine wpAnyH_ready (rs := [5]) (by kernel_rfl) (by simp) ?_
        refine (AllReadyH.cons (o := { dst := some 19, op := Op.buildSlice 33 1 #[(0, Operand.tmp 18)], type := 33, pos := "finset.go:187", after := #[{ on := 4, ground := Ground.data }], guard := none }) rfl (fun K hK => ?_) AllReadyH.nil)
        go_simp
        try dsimp only
        have HT720 := hide ((unhide HT719).alloc (.cells #[.string x] 22))
        have HL720 := hide ((unhide HT719).lit #[.string x])
        have HN720 := hide ((unhide HL719).alloc (.cells #[.string x] 22))
        have fp720 := HF.out _ (unhide HT720).below
        refine hK.out _ (wl719.alloc (.cells #[.string x] 22)) fp720 (fun _ => ?_)
        clear hK K
        generalize hwe720 : wl719.alloc (.cells #[.string x] 22) = wl720 at *
        clear hwe720
        generalize hbe720 : wl719.heap.size = bl720 at *
        clear hbe720
        try simp only [Act.put, List.setIfInBounds_toArray, List.set_cons_zero, List.set_cons_succ]
        refine wpAnyH_ready (rs := [6]) (by kernel_rfl) (by simp) ?_
        refine (AllReadyH.cons (o := { dst := some 20, op := Op.call { callee := Callee.builtin Builtin.append, args := #[Operand.tmp 14, Operand.tmp 19], argTypes := #[33, 33] }, type := 33, pos := "finset.go:187", after := #[{ on := 0, ground := Ground.data }, { on := 5, ground := Ground.data }], guard := none }) rfl (fun K hK => ?_) AllReadyH.nil)
        refine step_app rfl _ _ 33 rfl w3.heap.size 22 i0 _ 1 16 Tryz.underlying33 hi0 hiz0 hiz1 hiz2 rfl (by decide) (.slice A4 k c4) k (((evB ps).take k).map Value.string) rfl (unhide HT720).ok (some ⟨bl720, 0, none⟩) 1 1 [.string x] rfl rfl (unhide HL720).at1 (one_str x) (by unfold maxLen; omega) (by omega) (unhide HT720).below.size ?_
        intro v721 w721 hown721 hgrow721 hor721
        have HT721 := hide ((unhide HT720).appK hown721 hgrow721 hor721)
        have HN721 := hide ((unhide HN720).appK hgrow721 hor721)
        have fp721 := HF.out _ (unhide HT721).below
        clear hown721 hgrow721 hor721
        refine hK.out _ w721 fp721 (fun _ => ?_)
        clear hK K
        try simp only [Act.put, List.setIfInBounds_toArray, List.set_cons_zero, List.set_cons_succ]
        refine wpAnyH_ready (rs := [14]) (by kernel_rfl) (by simp) ?_
        refine (AllReadyH.cons (o := { dst := some 28, op := Op.call { callee := Callee.builtin Builtin.append, args := #[Operand.tmp 21, Operand.tmp 27], argTypes := #[33, 33] }, type := 33, pos := "finset.go:187", after := #[{ on := 7, ground := Ground.data }, { on := 13, ground := Ground.data }, { on := 6, ground := Ground.chain }], guard := none }) rfl (fun K hK => ?_) AllReadyH.nil)
        refine step_app rfl _ _ 33 rfl w3.heap.size 22 i0 _ 1 16 Tryz.underlying33 hi0 hiz0 hiz1 hiz2 rfl (by decide) (.slice A5 k c5) k (((odB ps).take k).map Value.string) rfl (unhide HT721).ov (some ⟨bl719, 0, none⟩) 1 1 [.string y] rfl rfl (unhide HN721).at1 (one_str y) (by unfold maxLen; omega) (by omega) (unhide HT721).below.size ?_
        intro v722 w722 hown722 hgrow722 hor722
        have HT722 := hide ((unhide HT721).appV hown722 hgrow722 hor722)
        have fp722 := HF.out _ (unhide HT722).below
        clear hown722 hgrow722 hor722
        refine hK.out _ w722 fp722 (fun _ => ?_)
        clear hK K
        try simp only [Act.put, List.setIfInBounds_toArray, List.set_cons_zero, List.set_cons_succ]
        refine wpAnyH_take (i := 15) (oi := { dst := some 2, op := Op.assign (Operand.tmp 20), type := 33, pos := "finset.go:187", after := #[{ on := 6, ground := Ground.data }, { on := 14, ground := Ground.chain }, { on := 0, ground := Ground.phase }, { on := 1, ground := Ground.phase }, { on := 2, ground := Ground.phase }, { on := 3, ground := Ground.phase }, { on := 4, ground := Ground.phase }, { on := 5, ground := Ground.phase }, { on := 6, ground := Ground.phase }, { on := 7, ground := Ground.textOnly Departure.lateStores }, { on := 8, ground := Ground.textOnly Departure.lateStores }, { on := 9, ground := Ground.textOnly Departure.lateStores }, { on := 10, ground := Ground.textOnly Departure.lateStores }, { on := 11, ground := Ground.textOnly Departure.lateStores }, { on := 12, ground := Ground.textOnly Departure.lateStores }, { on := 13, ground := Ground.textOnly Departure.lateStores }, { on := 14, ground := Ground.textOnly Departure.lateStoresUnsure }], guard := none }) (v := ?_) rfl (by kernel_rfl) (by kernel_rfl) (by kernel_rfl) (fun _ _ _ h => h) (Or.inl ⟨by rfl, ?_⟩) ⟨fp722.1, fp722.2⟩ ?_
        rotate_left 1
        · intro w hSw
          obtain ⟨hSw0, hSw1⟩ := hSw
          go_simp
          first
            | done
            | with_reducible rfl
            | rw [if_neg (by omega)]
        try simp only [Act.put, List.setIfInBounds_toArray, List.set_cons_zero, List.set_cons_succ]
        refine wpAnyH_take (i := 16) (oi := { dst := some 3, op := Op.assign (Operand.tmp 28), type := 33, pos := "finset.go:187", after := #[{ on := 14, ground := Ground.data }, { on := 15, ground := Ground.chain }, { on := 0, ground := Ground.phase }, { on := 1, ground := Ground.phase }, { on := 2, ground := Ground.phase }, { on := 3, ground := Ground.phase }, { on := 4, ground := Ground.phase }, { on := 5, ground := Ground.phase }, { on := 6, ground := Ground.phase }, { on := 7, ground := Ground.phase }, { on := 8, ground := Ground.phase }, { on := 9, ground := Ground.phase }, { on := 10, ground := Ground.phase }, { on := 11, ground := Ground.phase }, { on := 12, ground := Ground.phase }, { on := 13, ground := Ground.phase }, { on := 14, ground := Ground.phase }, { on := 15, ground := Ground.phase }], guard := none }) (v := ?_) rfl (by kernel_rfl) (by kernel_rfl) (by kernel_rfl) (fun _ _ _ h => h) (Or.inl ⟨by rfl, ?_⟩) ⟨fp722.1, fp722.2⟩ ?_
        rotate_left 1
        · intro w hSw
          obtain ⟨hSw0, hSw1⟩ := hSw
          go_simp
          first
            | done
            | with_reducible rfl
            | rw [if_neg (by omega)]
        try simp only [Act.put, List.setIfInBounds_toArray, List.set_cons_zero, List.set_cons_succ]
        refine wpAnyH_done (by kernel_rfl) ?_ _
        refine NoPanic.normal ?_
        have HTE := hide (unhide HT722)
        go_wp2_with fail
        go_roundw
        case rel => exact ⟨j + 2, k + 1, by go_num, Lib.hid (by have := hjk.out; omega), by have := hjk.out; omega, by have := unhide HTE; rw [HEV.out.1, HEV.out.2, List.map_append, List.map_append]; exact this⟩
        case measure => simp [intOf]; omega
    · have hk2 : j = n3 := by omega
      have HE1 : Hid ((evB ps).take k = evB ps) := Lib.hid (List.take_of_length_le (by have := ev_len HEVN.out; have := HN3.out; have := hjk.out; omega))
      have HE2 : Hid ((odB ps).take k = odB ps) := Lib.hid (List.take_of_length_le (by have := ev_len HEVN.out; have := HN3.out; have := hjk.out; rw [od_len]; omega))
      have HK : Hid (k = (evB ps).length) := Lib.hid (by have := ev_len HEVN.out; have := HN3.out; have := hjk.out; omega)
      rw [HE1.out, HE2.out] at HTw
      go_wp2_with fail
      go_ret2
      exact ⟨A4, A5, c4, c5, k, k, rfl, HK.out, HK.out.trans od_len.symm, two_below (unhide HB3) (unhide HTw)⟩

end Go.Proofs.YtaambeficfiacaaGreat
