/- value.Text's writer: simple at a name that is given. Conditions: the text and the name are short. -/
-- by tools/gen_vxn.py
import Derived.Test.YtaambeficfiacaaGreatDoorVxM
import Derived.Test.YtaambeficfiacaaGreatDoorVgC
import Derived.Deep.RegionHeld3
namespace Go.Proofs.YtaambeficfiacaaGreatDoor
open Go.RowKit VM

/-- the writer in its box, which is the first block behind w0 -/
structure WSt (w0 W : World) (rest : ByteArray) (An : Option Addr) (nn cn : Nat) (tv : Value) (txt : List UInt8) : Prop where
  below : Below w0.heap.size w0 W
  blk : Blk W w0.heap.size 50 #[.string rest, .slice An nn cn, tv]
  own : W.ownsRow (w0.heap.size + 1) 5 1 tv txt.length (bCells txt)
def TabOK (w0 : World) : Prop := Go.Lib.TabIs Tryz.prog w0 "internal/strconv.uint64pow10" .u64 Go.Lib.pow10Tab
section
variable {w0 W W' : World} {rest : ByteArray} {An : Option Addr} {nn cn : Nat} {tv : Value} {txt : List UInt8}
theorem WSt.lt (h : WSt w0 W rest An nn cn tv txt) : w0.heap.size + 1 ≤ W.heap.size := h.blk.lt
theorem WSt.tab (h : WSt w0 W rest An nn cn tv txt) (ht : TabOK w0) : Go.Lib.TabBelow Tryz.prog (w0.heap.size + 1) W "internal/strconv.uint64pow10" .u64 Go.Lib.pow10Tab := fun w' hb =>
  ((Go.Lib.tabBelow_of_tabIs ht).on h.below).here |> fun _ => (Go.Lib.tabBelow_of_tabIs ht) w' (h.below.trans ⟨hb.os, hb.tape, hb.output, hb.size, fun i hi => hb.block i (by omega)⟩)
theorem WSt.put (h : WSt w0 W rest An nn cn tv txt) (hb : Below (w0.heap.size + 1) W W') {v' : Value} {txt' : List UInt8} (ho : W'.ownsRow (w0.heap.size + 1) 5 1 v' txt'.length (bCells txt')) :
    WSt w0 (W'.setCell ⟨w0.heap.size, 2, none⟩ v') rest An nn cn v' txt' := by
  have hk : Blk W' w0.heap.size 50 #[.string rest, .slice An nn cn, tv] := h.blk.below hb (by omega)
  refine ⟨(h.below.trans ⟨hb.os, hb.tape, hb.output, hb.size, fun i hi => hb.block i (by omega)⟩).setCell (Nat.le_refl _) _, ?_, owns_set ho (fun e => by have := (ho.lt _ e).1; omega) _⟩
  have := hk.set_ 2 v'
  exact this
theorem WSt.cut (h : WSt w0 W rest An nn cn tv txt) (hb : Below (w0.heap.size + 1) W W') (hO : W'.ownsRow (w0.heap.size + 1) 5 1 tv txt.length (bCells txt)) (r' : ByteArray) :
    WSt w0 (W'.setCell ⟨w0.heap.size, 0, none⟩ (.string r')) r' An nn cn tv txt := by
  have hk : Blk W' w0.heap.size 50 #[.string rest, .slice An nn cn, tv] := h.blk.below hb (by omega)
  refine ⟨(h.below.trans ⟨hb.os, hb.tape, hb.output, hb.size, fun i hi => hb.block i (by omega)⟩).setCell (Nat.le_refl _) _, ?_, owns_set hO (fun e => by have := (hO.lt _ e).1; omega) _⟩
  have := hk.set_ 0 (.string r')
  exact this
theorem bCells_app (a b : List UInt8) : bCells (a ++ b) = bCells a ++ bCells b := by unfold bCells; rw [List.map_append]
/-- what a piece of writing leaves -/
def WPost (w0 : World) (rest : ByteArray) (An : Option Addr) (nn cn : Nat) (txt : List UInt8) (e : Ending) (w' : World) : Prop :=
  e = .returned (.tuple #[]) ∧ ∃ tv, WSt w0 w' rest An nn cn tv txt
end
set_option linter.unusedSimpArgs false in
set_option maxRecDepth 100000 in
set_option maxHeartbeats 3200000 in
theorem wbool_any (z : Int) (w0 W : World) (rest : ByteArray) (An : Option Addr) (nn cn : Nat) (tv : Value) (txt : List UInt8) (h : WSt w0 W rest An nn cn tv txt) (hn : txt.length ≤ 70368744177664) :
    Calls Tryz.prog 47 #[.pointer (some ⟨w0.heap.size, 0, none⟩), .int .i64 2, .int .i64 z] W (WPost w0 rest An nn cn (txt ++ boolT (decide (z = 1)))) := by
  have HS := hide h
  have c2 : W.cell? ⟨w0.heap.size, 2, none⟩ = some tv := h.blk.cell 2
  obtain ⟨A3, c3, rfl⟩ := owns_form h.own
  have hlt := h.lt
  have HA := hide (appBool_any (z == 1) (w0.heap.size + 1) txt.length (.slice A3 txt.length c3) (bCells txt) W h.own hlt hn)
  have HE : Hid (boolT (z == 1) = boolT (decide (z = 1))) := Lib.hid (by
    by_cases e : z = 1
    · subst e; rfl
    · rw [decide_eq_false e, beq_eq_false_iff_ne.2 e])
  obtain ⟨g, hg⟩ : ∃ g, w0.heap.size = g := ⟨_, rfl⟩
  rw [hg] at c2 HA ⊢
  clear h hn hlt
  go_enter Tryz.func47, Tryz.ntmps47
  go_wp2_with fail
  refine (unhide HA).mono ?_
  rintro e w3 ⟨v', rfl, hO3, hB3⟩
  obtain ⟨A4, c4, rfl⟩ := owns_form hO3
  have hb := (unhide HS).blk.below (w' := w3) (B := w0.heap.size + 1) (by rw [hg]; exact hB3) (by omega)
  rw [hg] at hb
  have c3' : w3.cell? ⟨g, 2, none⟩ = some (.slice A3 txt.length c3) := hb.cell 2
  have f3' := hb.frozen 2
  have HP : Hid (WSt w0 (w3.setCell ⟨g, 2, none⟩ (.slice A4 (txt.length + (boolT (z == 1)).length) c4)) rest An nn cn (.slice A4 (txt.length + (boolT (z == 1)).length) c4) (txt ++ boolT (decide (z = 1)))) := hide (by
    have := (unhide HS).put (W' := w3) (v' := .slice A4 (txt.length + (boolT (z == 1)).length) c4) (txt' := txt ++ boolT (decide (z = 1))) (by rw [hg]; exact hB3) (by rw [hg, bCells_app, List.length_append, ← HE.out]; exact hO3)
    rwa [hg] at this)
  clear hO3 hB3 hb HS HA c2
  go_wp2_with fail
  go_end0
  exact ⟨rfl, _, unhide HP⟩
set_option linter.unusedSimpArgs false in
set_option maxRecDepth 100000 in
set_option maxHeartbeats 3200000 in
theorem wint_any (z : Int) (hz : -9223372036854775808 ≤ z ∧ z ≤ 9223372036854775807) (w0 W : World) (rest : ByteArray) (An : Option Addr) (nn cn : Nat) (tv : Value) (txt : List UInt8) (h : WSt w0 W rest An nn cn tv txt) (hn : txt.length ≤ 70368744177664) (ht : TabOK w0) :
    Calls Tryz.prog 47 #[.pointer (some ⟨w0.heap.size, 0, none⟩), .int .i64 1, .int .i64 z] W (WPost w0 rest An nn cn (txt ++ Go.Lib.itoa z)) := by
  have HS := hide h
  have c2 : W.cell? ⟨w0.heap.size, 2, none⟩ = some tv := h.blk.cell 2
  obtain ⟨A3, c3, rfl⟩ := owns_form h.own
  have hlt := h.lt
  have HA := hide (appInt_any z hz (w0.heap.size + 1) txt.length (.slice A3 txt.length c3) (bCells txt) W h.own hlt hn (h.tab ht))
  obtain ⟨g, hg⟩ : ∃ g, w0.heap.size = g := ⟨_, rfl⟩
  rw [hg] at c2 HA ⊢
  clear h hn hlt ht hz
  go_enter Tryz.func47, Tryz.ntmps47
  go_wp2_with fail
  refine (unhide HA).mono ?_
  rintro e w3 ⟨v', rfl, hO3, hB3⟩
  obtain ⟨A4, c4, rfl⟩ := owns_form hO3
  have hb := (unhide HS).blk.below (w' := w3) (B := w0.heap.size + 1) (by rw [hg]; exact hB3) (by omega)
  rw [hg] at hb
  have c3' : w3.cell? ⟨g, 2, none⟩ = some (.slice A3 txt.length c3) := hb.cell 2
  have f3' := hb.frozen 2
  have HP : Hid (WSt w0 (w3.setCell ⟨g, 2, none⟩ (.slice A4 (txt.length + (Go.Lib.itoa z).length) c4)) rest An nn cn (.slice A4 (txt.length + (Go.Lib.itoa z).length) c4) (txt ++ Go.Lib.itoa z)) := hide (by
    have := (unhide HS).put (W' := w3) (v' := .slice A4 (txt.length + (Go.Lib.itoa z).length) c4) (txt' := txt ++ Go.Lib.itoa z) (by rw [hg]; exact hB3) (by rw [hg, bCells_app, List.length_append]; exact hO3)
    rwa [hg] at this)
  clear hO3 hB3 hb HS HA c2
  go_wp2_with fail
  go_end0
  exact ⟨rfl, _, unhide HP⟩
set_option linter.unusedSimpArgs false in
set_option maxRecDepth 100000 in
set_option maxHeartbeats 3200000 in
theorem wname_no (m : Nat) (hm : m < 65536) (w0 W : World) (rest : ByteArray) (An : Option Addr) (nn cn : Nat) (tv : Value) (txt : List UInt8) (h : WSt w0 W rest An nn cn tv txt) (hn : txt.length ≤ 70368744177000) (ht : TabOK w0) (hnm : nn ≤ m) :
    Calls Tryz.prog 47 #[.pointer (some ⟨w0.heap.size, 0, none⟩), .int .i64 10, .int .i64 (m : Int)] W (WPost w0 rest An nn cn (txt ++ 63 :: Go.Lib.itoa (m : Int))) := by
  have HS := hide h
  have c2 : W.cell? ⟨w0.heap.size, 2, none⟩ = some tv := h.blk.cell 2
  have c1 : W.cell? ⟨w0.heap.size, 1, none⟩ = some (.slice An nn cn) := h.blk.cell 1
  obtain ⟨A3, c3, rfl⟩ := owns_form h.own
  have hlt := h.lt
  obtain ⟨i0, hi0, hiz0, hiz1, hiz2⟩ := info_parts byte_infos
  have HT := Lib.hid ht
  have HO4 := hide (h.own.alloc (.cells #[.int .u8 63] 5))
  have HB4 : Hid (Below (w0.heap.size + 1) W (W.alloc (.cells #[.int .u8 63] 5))) := hide ((Below.refl _ _).alloc hlt _)
  have HN4 := hide (new_in W 5 #[.int .u8 63])
  have hz4 : w0.heap.size + 1 ≤ (W.alloc (.cells #[.int .u8 63] 5)).heap.size := by simp; omega
  obtain ⟨g, hg⟩ : ∃ g, w0.heap.size = g := ⟨_, rfl⟩
  rw [hg] at c2 c1 HO4 hz4 ⊢
  clear h hlt ht
  go_enter Tryz.func47, Tryz.ntmps47
  go_wp2_with (
    at_builtin
    refine wpList_app _ rfl _ _ 48 rfl (g + 1) 5 i0 _ 1 1 Tryz.underlying48 hi0 hiz0 hiz1 hiz2 rfl (by decide) (.slice A3 txt.length c3) txt.length (bCells txt) rfl (unhide HO4) (some ⟨W.heap.size, 0, none⟩) 1 1 [.int .u8 63] rfl rfl (unhide HN4) (one_u8 63) (by unfold maxLen; omega) (by omega) hz4 ?_
    intro v5 w5 hown5 hgrow5 _
    obtain ⟨A5, c5, rfl⟩ := owns_form hown5
    have HB5 : Hid (Below (w0.heap.size + 1) W w5) := hide (by rw [hg] at HB4 ⊢; exact (unhide HB4).trans (below_of_grown (unhide HO4) hgrow5 hz4))
    have hb := (unhide HS).blk.below (w' := w5) (B := w0.heap.size + 1) (unhide HB5) (by omega)
    rw [hg] at hb
    have c2' : w5.cell? ⟨g, 2, none⟩ = some (.slice A3 txt.length c3) := hb.cell 2
    have f2' := hb.frozen 2
    have HP5 : Hid (WSt w0 (w5.setCell ⟨g, 2, none⟩ (.slice A5 (txt.length + 1) c5)) rest An nn cn (.slice A5 (txt.length + 1) c5) (txt ++ [63])) := hide (by
      have := (unhide HS).put (W' := w5) (v' := .slice A5 (txt.length + 1) c5) (txt' := txt ++ [63]) (unhide HB5) (by rw [hg, bCells_app, List.length_append]; exact hown5)
      rwa [hg] at this)
    clear hown5 hgrow5 HO4 HB4 HN4 hz4 hb HB5 c2 c1 HS)
  generalize w5.setCell ⟨g, 2, none⟩ (.slice A5 (txt.length + 1) c5) = w6 at *
  clear c2' f2'
  have hlt6 := (unhide HP5).lt
  rw [hg] at hlt6
  have HO6 := hide (unhide HP5).own
  rw [hg] at HO6
  have HTB := hide ((unhide HP5).tab HT.out)
  rw [hg] at HTB
  refine (appInt_any (m : Int) (by omega) (g + 1) (txt.length + 1) (.slice A5 (txt.length + 1) c5) (bCells (txt ++ [63])) w6 (by have := unhide HO6; rwa [List.length_append] at this) hlt6 (by omega) (unhide HTB)).mono ?_
  rintro e w7 ⟨v7, rfl, hO7, hB7⟩
  obtain ⟨A7, c7, rfl⟩ := owns_form hO7
  have hb := (unhide HP5).blk.below (w' := w7) (B := w0.heap.size + 1) (by rw [hg]; exact hB7) (by omega)
  rw [hg] at hb
  have c2' : w7.cell? ⟨g, 2, none⟩ = some (.slice A5 (txt.length + 1) c5) := hb.cell 2
  have f2' := hb.frozen 2
  have HP7 : Hid (WSt w0 (w7.setCell ⟨g, 2, none⟩ (.slice A7 (txt.length + 1 + (Go.Lib.itoa (m : Int)).length) c7)) rest An nn cn (.slice A7 (txt.length + 1 + (Go.Lib.itoa (m : Int)).length) c7) (txt ++ 63 :: Go.Lib.itoa (m : Int))) := hide (by
    have := (unhide HP5).put (W' := w7) (v' := .slice A7 (txt.length + 1 + (Go.Lib.itoa (m : Int)).length) c7) (txt' := txt ++ [63] ++ Go.Lib.itoa (m : Int)) (by rw [hg]; exact hB7) (by rw [hg, bCells_app, List.length_append, List.length_append]; exact hO7)
    rw [hg, List.append_assoc] at this
    exact this)
  clear hO7 hB7 hb HP5 HO6 HTB hlt6
  go_wp2_with fail
  go_end0
  exact ⟨rfl, _, unhide HP7⟩

end Go.Proofs.YtaambeficfiacaaGreatDoor
namespace Go.Proofs.YtaambeficfiacaaGreatDoor
open Go.RowKit VM

theorem step_appS {P : Program} {w : World} {ops : Array Oper} {o : Oper} {a : Act} {K : Act → World → Prop} {Q : Exit → Act → World → Prop} {E : Prop} (hgd : o.guard = none) (sl x : Operand) (t u : TypeId)
    (ho : o.op = .call { callee := .builtin .append, args := #[sl, x], argTypes := #[t, u] })
    (base : Nat) (e : TypeId) (i : TypeInfo) (ht : P.underlying t = some (.slice e)) (hu : P.underlying u = some .string) (hi : P.info? e = some i) (hz : i.zero = some (.int .u8 0))
    (hsize : i.size = 1) (hby : i.bytes = 1)
    (v : Value) (n : Nat) (xs : List Value) (hs : a.eval sl = v) (hown : w.ownsRow base e 1 v n xs) (s : ByteArray) (hx : a.eval x = .string s)
    (h63 : n + s.size ≤ maxLen) (hbytes : n + s.size ≤ 140737488355328) (hbase : base ≤ w.heap.size)
    (h : ∀ v' w', w'.ownsRow base e 1 v' (n + s.size) (xs ++ Go.Lib.strCells s) → w.grownBy w' v.ownBlock → K (a.put o.dst v') w') : if Region.wanted o (yielded ops a.tmps) = true then Oper.wp P o a w K Q else E := by
  have hw2 : Region.wanted o (yielded ops a.tmps) = true := by simp [Region.wanted, hgd]
  rw [if_pos hw2]
  obtain ⟨v', w', hr, h2, h3, _⟩ := Go.Lib.run_append_own_string (P := P) w base t u o.type e i ht hu hi hz hsize hby v n xs hown s h63 hbytes hbase
  unfold Oper.wp execOp
  simp only [ho, resolve, invoke, builtin, Sem.run_bind, Sem.run_pure, Result.andThen_ok, List.map_toArray, List.map_cons, List.map_nil, hs, hx, hr]
  exact h v' w' h2 h3
set_option linter.unusedSimpArgs false in
set_option maxRecDepth 100000 in
set_option maxHeartbeats 3200000 in
theorem wname_yes (m : Nat) (s : ByteArray) (ns : List ByteArray) (hns : ns[m]? = some s) (hs : s.size ≤ 1048576) (w0 W : World) (rest : ByteArray) (An : Option Addr) (nn cn : Nat) (tv : Value) (txt : List UInt8) (h : WSt w0 W rest An nn cn tv txt) (hn : txt.length ≤ 70368744177000) (hnn : nn = ns.length) (hI : InC w0 An (ns.map Value.string)) :
    Calls Tryz.prog 47 #[.pointer (some ⟨w0.heap.size, 0, none⟩), .int .i64 10, .int .i64 (m : Int)] W (WPost w0 rest An nn cn (txt ++ bs s)) := by
  have HS := hide h
  have c2 : W.cell? ⟨w0.heap.size, 2, none⟩ = some tv := h.blk.cell 2
  have c1 : W.cell? ⟨w0.heap.size, 1, none⟩ = some (.slice An nn cn) := h.blk.cell 1
  obtain ⟨A3, c3, rfl⟩ := owns_form h.own
  have hlt := h.lt
  obtain ⟨i0, hi0, hiz0, hiz1, hiz2⟩ := info_parts byte_infos
  have hm : m < nn := by rw [hnn]; exact (List.getElem?_eq_some_iff.1 hns).1
  obtain ⟨b5, o5, hA1, hb5, hc5⟩ := at1s hI (i := m) (u := .string s) (by rw [List.getElem?_map, hns]; rfl)
  subst hA1
  have HC5 := Lib.hid hc5
  have HB5 := Lib.hid hb5
  have HCW : Hid (W.cell? ⟨b5, o5 + m, none⟩ = some (.string s)) := Lib.hid ((h.below.cell (p := ⟨b5, o5 + m, none⟩) hb5).trans hc5)
  have HO4 : Hid (W.drew.ownsRow (w0.heap.size + 1) 5 1 (.slice A3 txt.length c3) txt.length (bCells txt)) := hide h.own
  have hz4 : w0.heap.size + 1 ≤ W.drew.heap.size := hlt
  have HSD : Hid (WSt w0 W.drew rest (some ⟨b5, o5, none⟩) nn cn (.slice A3 txt.length c3) txt) := hide ⟨below_drew h.below, h.blk, h.own⟩
  have hmi : (m : Int) < (nn : Int) := by omega
  have HN := Lib.hid hn
  obtain ⟨g, hg⟩ : ∃ g, w0.heap.size = g := ⟨_, rfl⟩
  rw [hg] at c2 c1 HO4 hz4 HB5 ⊢
  clear h hlt hI hnn hns hb5 hc5 hn HS
  go_enter Tryz.func47, Tryz.ntmps47
  go_wp2_with fail
  have fd0 : Hid (W.drew.cell? ⟨g, 1, none⟩ = some (.slice (some ⟨b5, o5, none⟩) nn cn)) := c1
  have fd1 : Hid (W.drew.cell? ⟨b5, o5 + m, none⟩ = some (.string s)) := HCW.out
  have c2d : W.drew.cell? ⟨g, 2, none⟩ = some (.slice A3 txt.length c3) := c2
  clear c2
  refine wp_region_noPanic ?_
  refine wp_region_held_drew (S := fun W => W.cell? ⟨g, 1, none⟩ = some (.slice (some ⟨b5, o5, none⟩) nn cn) ∧ W.cell? ⟨b5, o5 + m, none⟩ = some (.string s)) (by kernel_rfl) ⟨fd0, fd1⟩ (fun _ => ?_)
  generalize W.drew = wd at *
  try simp only [Act.put, List.setIfInBounds_toArray, List.set_cons_zero, List.set_cons_succ]
  refine wpAnyH_take (i := 0) (oi := { dst := some 57, op := Op.move (Operand.tmp 0), type := 62, pos := "text.go:54", after := #[], guard := none }) (v := ?_) rfl (by kernel_rfl) (by kernel_rfl) (by kernel_rfl) (fun _ _ _ h => h) (Or.inl ⟨by rfl, ?_⟩) ⟨fd0, fd1⟩ ?_
  rotate_left 1
  · intro w hSw
    obtain ⟨hSw0, hSw1⟩ := hSw
    go_simp
    first
      | done
      | with_reducible rfl
      | rw [if_neg (by omega)]
  try simp only [Act.put, List.setIfInBounds_toArray, List.set_cons_zero, List.set_cons_succ]
  refine wpAnyH_take (i := 1) (oi := { dst := some 58, op := Op.move (Operand.tmp 0), type := 62, pos := "text.go:54", after := #[], guard := none }) (v := ?_) rfl (by kernel_rfl) (by kernel_rfl) (by kernel_rfl) (fun _ _ _ h => h) (Or.inl ⟨by rfl, ?_⟩) ⟨fd0, fd1⟩ ?_
  rotate_left 1
  · intro w hSw
    obtain ⟨hSw0, hSw1⟩ := hSw
    go_simp
    first
      | done
      | with_reducible rfl
      | rw [if_neg (by omega)]
  try simp only [Act.put, List.setIfInBounds_toArray, List.set_cons_zero, List.set_cons_succ]
  refine wpAnyH_take (i := 2) (oi := { dst := some 59, op := Op.nilCheck (Operand.tmp 58), type := 0, pos := "text.go:54", after := #[{ on := 1, ground := Ground.data }], guard := none }) (v := ?_) rfl (by kernel_rfl) (by kernel_rfl) (by kernel_rfl) (fun _ _ _ h => h) (Or.inl ⟨by rfl, ?_⟩) ⟨fd0, fd1⟩ ?_
  rotate_left 1
  · intro w hSw
    obtain ⟨hSw0, hSw1⟩ := hSw
    go_simp
    first
      | done
      | with_reducible rfl
      | rw [if_neg (by omega)]
  try simp only [Act.put, List.setIfInBounds_toArray, List.set_cons_zero, List.set_cons_succ]
  refine wpAnyH_take (i := 3) (oi := { dst := some 60, op := Op.fieldAddr 50 (Operand.tmp 59) 2, type := 0, pos := "text.go:54", after := #[{ on := 2, ground := Ground.data }], guard := none }) (v := ?_) rfl (by kernel_rfl) (by kernel_rfl) (by kernel_rfl) (fun _ _ _ h => h) (Or.inl ⟨by rfl, ?_⟩) ⟨fd0, fd1⟩ ?_
  rotate_left 1
  · intro w hSw
    obtain ⟨hSw0, hSw1⟩ := hSw
    go_simp
    first
      | done
      | with_reducible rfl
      | rw [if_neg (by omega)]
  try simp only [Act.put, List.setIfInBounds_toArray, List.set_cons_zero, List.set_cons_succ]
  refine wpAnyH_take (i := 5) (oi := { dst := some 62, op := Op.move (Operand.tmp 0), type := 62, pos := "text.go:54", after := #[], guard := none }) (v := ?_) rfl (by kernel_rfl) (by kernel_rfl) (by kernel_rfl) (fun _ _ _ h => h) (Or.inl ⟨by rfl, ?_⟩) ⟨fd0, fd1⟩ ?_
  rotate_left 1
  · intro w hSw
    obtain ⟨hSw0, hSw1⟩ := hSw
    go_simp
    first
      | done
      | with_reducible rfl
      | rw [if_neg (by omega)]
  try simp only [Act.put, List.setIfInBounds_toArray, List.set_cons_zero, List.set_cons_succ]
  refine wpAnyH_take (i := 6) (oi := { dst := some 63, op := Op.nilCheck (Operand.tmp 62), type := 0, pos := "text.go:54", after := #[{ on := 5, ground := Ground.data }], guard := none }) (v := ?_) rfl (by kernel_rfl) (by kernel_rfl) (by kernel_rfl) (fun _ _ _ h => h) (Or.inl ⟨by rfl, ?_⟩) ⟨fd0, fd1⟩ ?_
  rotate_left 1
  · intro w hSw
    obtain ⟨hSw0, hSw1⟩ := hSw
    go_simp
    first
      | done
      | with_reducible rfl
      | rw [if_neg (by omega)]
  try simp only [Act.put, List.setIfInBounds_toArray, List.set_cons_zero, List.set_cons_succ]
  refine wpAnyH_take (i := 7) (oi := { dst := some 64, op := Op.fieldAddr 50 (Operand.tmp 63) 1, type := 0, pos := "text.go:54", after := #[{ on := 6, ground := Ground.data }], guard := none }) (v := ?_) rfl (by kernel_rfl) (by kernel_rfl) (by kernel_rfl) (fun _ _ _ h => h) (Or.inl ⟨by rfl, ?_⟩) ⟨fd0, fd1⟩ ?_
  rotate_left 1
  · intro w hSw
    obtain ⟨hSw0, hSw1⟩ := hSw
    go_simp
    first
      | done
      | with_reducible rfl
      | rw [if_neg (by omega)]
  try simp only [Act.put, List.setIfInBounds_toArray, List.set_cons_zero, List.set_cons_succ]
  refine wpAnyH_take (i := 8) (oi := { dst := some 65, op := Op.load 24 (Operand.tmp 64), type := 24, pos := "text.go:54", after := #[{ on := 7, ground := Ground.data }], guard := none }) (v := ?_) rfl (by kernel_rfl) (by kernel_rfl) (by kernel_rfl) (fun _ _ _ h => h) (Or.inl ⟨by rfl, ?_⟩) ⟨fd0, fd1⟩ ?_
  rotate_left 1
  · intro w hSw
    obtain ⟨hSw0, hSw1⟩ := hSw
    go_simp
    first
      | done
      | with_reducible rfl
      | rw [if_neg (by omega)]
  try simp only [Act.put, List.setIfInBounds_toArray, List.set_cons_zero, List.set_cons_succ]
  refine wpAnyH_take (i := 9) (oi := { dst := some 66, op := Op.move (Operand.tmp 2), type := 2, pos := "text.go:54", after := #[], guard := none }) (v := ?_) rfl (by kernel_rfl) (by kernel_rfl) (by kernel_rfl) (fun _ _ _ h => h) (Or.inl ⟨by rfl, ?_⟩) ⟨fd0, fd1⟩ ?_
  rotate_left 1
  · intro w hSw
    obtain ⟨hSw0, hSw1⟩ := hSw
    go_simp
    first
      | done
      | with_reducible rfl
      | rw [if_neg (by omega)]
  try simp only [Act.put, List.setIfInBounds_toArray, List.set_cons_zero, List.set_cons_succ]
  refine wpAnyH_take (i := 10) (oi := { dst := some 67, op := Op.indexAddr 24 (Operand.tmp 65) (Operand.tmp 66), type := 0, pos := "text.go:54", after := #[{ on := 8, ground := Ground.data }, { on := 9, ground := Ground.data }], guard := none }) (v := ?_) rfl (by kernel_rfl) (by kernel_rfl) (by kernel_rfl) (fun _ _ _ h => h) (Or.inl ⟨by rfl, ?_⟩) ⟨fd0, fd1⟩ ?_
  rotate_left 1
  · intro w hSw
    obtain ⟨hSw0, hSw1⟩ := hSw
    go_simp
    first
      | done
      | with_reducible rfl
      | rw [if_neg (by omega)]
  try simp only [Act.put, List.setIfInBounds_toArray, List.set_cons_zero, List.set_cons_succ]
  refine wpAnyH_take (i := 11) (oi := { dst := some 68, op := Op.load 9 (Operand.tmp 67), type := 9, pos := "text.go:54", after := #[{ on := 10, ground := Ground.data }], guard := none }) (v := ?_) rfl (by kernel_rfl) (by kernel_rfl) (by kernel_rfl) (fun _ _ _ h => h) (Or.inl ⟨by rfl, ?_⟩) ⟨fd0, fd1⟩ ?_
  rotate_left 1
  · intro w hSw
    obtain ⟨hSw0, hSw1⟩ := hSw
    go_simp
    first
      | done
      | with_reducible rfl
      | rw [if_neg (by omega)]
  try simp only [Act.put, List.setIfInBounds_toArray, List.set_cons_zero, List.set_cons_succ]
  refine wpAnyH_ready (rs := [4]) (by kernel_rfl) (by simp) ?_
  refine AllReadyH.cons (o := { dst := some 61, op := Op.load 48 (Operand.tmp 60), type := 48, pos := "text.go:54", after := #[{ on := 3, ground := Ground.data }], guard := none }) rfl (fun K hK => ?_) AllReadyH.nil
  go_simp
  refine hK.out _ _ ⟨fd0, fd1⟩ (fun _ => ?_)
  clear hK K
  try simp only [Act.put, List.setIfInBounds_toArray, List.set_cons_zero, List.set_cons_succ]
  refine wpAnyH_ready (rs := [12]) (by kernel_rfl) (by simp) ?_
  refine AllReadyH.cons (o := { dst := some 69, op := Op.call { callee := Callee.builtin Builtin.append, args := #[Operand.tmp 61, Operand.tmp 68], argTypes := #[48, 9] }, type := 48, pos := "text.go:54", after := #[{ on := 4, ground := Ground.data }, { on := 11, ground := Ground.data }], guard := none }) rfl (fun K hK => ?_) AllReadyH.nil
  refine step_appS rfl _ _ 48 9 rfl (g + 1) 5 i0 Tryz.underlying48 Tryz.underlying9 hi0 hiz0 hiz1 hiz2 (.slice A3 txt.length c3) txt.length (bCells txt) rfl (unhide HO4) s rfl (by unfold maxLen; have := HN.out; omega) (by have := HN.out; omega) hz4 ?_
  intro v5 w5 hown5 hgrow5
  obtain ⟨A5, c5, rfl⟩ := owns_form hown5
  have HB6 : Hid (Below (w0.heap.size + 1) wd w5) := hide (by rw [hg]; exact below_of_grown (unhide HO4) hgrow5 hz4)
  have hb := (unhide HSD).blk.below (w' := w5) (B := w0.heap.size + 1) (unhide HB6) (by omega)
  rw [hg] at hb
  have k2 : w5.cell? ⟨g, 2, none⟩ = some (.slice A3 txt.length c3) := hb.cell 2
  have f2 := hb.frozen 2
  have k1 : w5.cell? ⟨g, 1, none⟩ = some (.slice (some ⟨b5, o5, none⟩) nn cn) := hb.cell 1
  have hb0 := (unhide HSD).below.trans ⟨(unhide HB6).os, (unhide HB6).tape, (unhide HB6).output, (unhide HB6).size, fun i hi => (unhide HB6).block i (by omega)⟩
  have k5 := (hb0.cell (p := ⟨b5, o5 + m, none⟩) (by rw [hg]; exact HB5.out)).trans HC5.out
  have HP5 : Hid (WSt w0 (w5.setCell ⟨g, 2, none⟩ (.slice A5 (txt.length + s.size) c5)) rest (some ⟨b5, o5, none⟩) nn cn (.slice A5 (txt.length + s.size) c5) (txt ++ bs s)) := hide (by
    have := (unhide HSD).put (W' := w5) (v' := .slice A5 (txt.length + s.size) c5) (txt' := txt ++ bs s) (unhide HB6) (by rw [hg, bCells_app, List.length_append, bs_size]; exact hown5)
    rwa [hg] at this)
  clear hown5 hgrow5 HO4 hz4 hb hb0 HB6 HSD c2d
  refine hK.out _ _ ⟨k1, k5⟩ (fun _ => ?_)
  clear hK K
  try simp only [Act.put, List.setIfInBounds_toArray, List.set_cons_zero, List.set_cons_succ]
  refine wpAnyH_take (i := 13) (oi := { dst := some 70, op := Op.nilCheck (Operand.tmp 57), type := 0, pos := "text.go:54", after := #[{ on := 0, ground := Ground.data }, { on := 0, ground := Ground.phase }, { on := 1, ground := Ground.phase }, { on := 2, ground := Ground.phase }, { on := 3, ground := Ground.phase }, { on := 4, ground := Ground.phase }, { on := 5, ground := Ground.phase }, { on := 6, ground := Ground.phase }, { on := 7, ground := Ground.phase }, { on := 8, ground := Ground.phase }, { on := 9, ground := Ground.phase }, { on := 10, ground := Ground.phase }, { on := 11, ground := Ground.phase }, { on := 12, ground := Ground.phase }], guard := none }) (v := ?_) rfl (by kernel_rfl) (by kernel_rfl) (by kernel_rfl) (fun _ _ _ h => h) (Or.inl ⟨by rfl, ?_⟩) ⟨k1, k5⟩ ?_
  rotate_left 1
  · intro w hSw
    obtain ⟨hSw0, hSw1⟩ := hSw
    go_simp
    first
      | done
      | with_reducible rfl
      | rw [if_neg (by omega)]
  try simp only [Act.put, List.setIfInBounds_toArray, List.set_cons_zero, List.set_cons_succ]
  refine wpAnyH_take (i := 14) (oi := { dst := some 71, op := Op.fieldAddr 50 (Operand.tmp 70) 2, type := 0, pos := "text.go:54", after := #[{ on := 13, ground := Ground.data }, { on := 0, ground := Ground.phase }, { on := 1, ground := Ground.phase }, { on := 2, ground := Ground.phase }, { on := 3, ground := Ground.phase }, { on := 4, ground := Ground.phase }, { on := 5, ground := Ground.phase }, { on := 6, ground := Ground.phase }, { on := 7, ground := Ground.phase }, { on := 8, ground := Ground.phase }, { on := 9, ground := Ground.phase }, { on := 10, ground := Ground.phase }, { on := 11, ground := Ground.phase }, { on := 12, ground := Ground.phase }], guard := none }) (v := ?_) rfl (by kernel_rfl) (by kernel_rfl) (by kernel_rfl) (fun _ _ _ h => h) (Or.inl ⟨by rfl, ?_⟩) ⟨k1, k5⟩ ?_
  rotate_left 1
  · intro w hSw
    obtain ⟨hSw0, hSw1⟩ := hSw
    go_simp
    first
      | done
      | with_reducible rfl
      | rw [if_neg (by omega)]
  try simp only [Act.put, List.setIfInBounds_toArray, List.set_cons_zero, List.set_cons_succ]
  refine wpAnyH_ready (rs := [15]) (by kernel_rfl) (by simp) ?_
  refine AllReadyH.cons (o := { dst := none, op := Op.store 48 (Operand.tmp 71) (Operand.tmp 69), type := 0, pos := "text.go:54", after := #[{ on := 14, ground := Ground.data }, { on := 12, ground := Ground.data }, { on := 12, ground := Ground.chain }, { on := 0, ground := Ground.phase }, { on := 1, ground := Ground.phase }, { on := 2, ground := Ground.phase }, { on := 3, ground := Ground.phase }, { on := 4, ground := Ground.phase }, { on := 5, ground := Ground.phase }, { on := 6, ground := Ground.phase }, { on := 7, ground := Ground.phase }, { on := 8, ground := Ground.phase }, { on := 9, ground := Ground.phase }, { on := 10, ground := Ground.phase }, { on := 11, ground := Ground.phase }, { on := 12, ground := Ground.phase }], guard := none }) rfl (fun K hK => ?_) AllReadyH.nil
  go_simp
  have l1 : (w5.setCell ⟨g, 2, none⟩ (.slice A5 (txt.length + s.size) c5)).cell? ⟨g, 1, none⟩ = some (.slice (some ⟨b5, o5, none⟩) nn cn) := by have := (unhide HP5).blk.cell 1; rw [hg] at this; exact this
  have l5 : (w5.setCell ⟨g, 2, none⟩ (.slice A5 (txt.length + s.size) c5)).cell? ⟨b5, o5 + m, none⟩ = some (.string s) := ((unhide HP5).below.cell (p := ⟨b5, o5 + m, none⟩) (by rw [hg]; exact HB5.out)).trans HC5.out
  refine hK.out _ _ ⟨l1, l5⟩ (fun _ => ?_)
  clear hK K
  try simp only [Act.put, List.setIfInBounds_toArray, List.set_cons_zero, List.set_cons_succ]
  refine wpAnyH_done (by kernel_rfl) ?_ _
  refine NoPanic.normal ?_
  go_wp2_with fail
  go_end0
  exact ⟨rfl, _, unhide HP5⟩

end Go.Proofs.YtaambeficfiacaaGreatDoor
