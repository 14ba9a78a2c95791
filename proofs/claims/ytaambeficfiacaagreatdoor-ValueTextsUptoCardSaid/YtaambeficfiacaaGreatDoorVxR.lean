/- The reference's Parts; joined, given Text one level down. Conditions: at most 2^48 bytes; the texts are short. -/
import Derived.Test.YtaambeficfiacaaGreatDoorVxC
import Derived.Laws.BytesArg
namespace Go.Proofs.YtaambeficfiacaaGreatDoor
open Go.RowKit VM

theorem wv_any (w0 : World) (An : Option Addr) (nn cn : Nat) (ns : List ByteArray) (hE : WEnv w0 An nn ns) : ∀ d, WvCon w0 An nn cn ns d := by
  intro d
  induction d with
  | zero =>
    intro v r W rest tv txt hw
    cases v <;> (unfold wf at hw; cases hw)
  | succ d ih =>
    intro v r W rest tv txt hw hr hrs h hn
    cases v with
    | int l =>
      unfold wf at hw
      have hl := of_decide_eq_true hw
      refine wv_simple 1 (numL l) (.int l) r (by decide) (.inl ⟨rfl, l, rfl, hl, rfl⟩) w0 W rest hr (by rw [hr]; rfl) ?_ ?_ hrs An nn cn ns hE tv txt h (by omega)
      · show (1 :: l).length = 9
        rw [List.length_cons, hl]
      · rw [(numV_int hl hr).1]; rfl
    | bool b =>
      refine wv_simple 2 (b.toNat : Int) (.bool b) r (by decide) (.inr (.inl ⟨rfl, b, rfl, rfl⟩)) w0 W rest hr (by rw [hr]; rfl) rfl ?_ hrs An nn cn ns hE tv txt h (by omega)
      have n1 : numV 2 rest = b.toNat := by unfold numV; rw [hr]; show natL [b] = _; simp [natL]
      rw [n1, signed_small (by have := b.toNat_lt; omega)]
    | name a b =>
      refine wv_simple 10 ((a.toNat * 256 + b.toNat : Nat) : Int) (.name a b) r (by decide) (.inr (.inr ⟨rfl, a, b, rfl, rfl⟩)) w0 W rest hr (by rw [hr]; rfl) rfl ?_ hrs An nn cn ns hE tv txt h (by omega)
      have n1 : numV 10 rest = a.toNat * 256 + b.toNat := by unfold numV; rw [hr]; show natL [a, b] = _; simp [natL]
      rw [n1, signed_small (by have := a.toNat_lt; have := b.toNat_lt; omega)]
    | comp k l => exact wv_comp d w0 An nn cn ns ih k l r hw W rest hr hrs tv txt h hn
/-- the text of a string -/
def textB (ns : List ByteArray) (s : ByteArray) : ByteArray := if valB 32 s = true then toS (textV ns (treeB s)) else ⟨#[]⟩
theorem conv_own {w : World} {B n : Nat} {v : Value} {l : List UInt8} (h : w.ownsRow B 5 1 v n (bCells l)) : Sem.run Tryz.prog (convert 48 9 v) w = .ok (.string (toS l)) w := by
  have hl : l.length = n := by have := h.1; unfold bCells at this; rw [List.length_map] at this; omega
  rcases h.2 with ⟨rfl, h0⟩ | ⟨g, cap, cur, rfl, _, hg, _, _, _, ht⟩
  · have : l = [] := List.eq_nil_of_length_eq_zero (by omega)
    subst this
    exact run_convert_bytes_nil (P := Tryz.prog) w 48 5 Tryz.underlying48 Tryz.underlying5 0 0 9 Tryz.underlying9
  · subst hl
    refine run_convert_bytes_back (P := Tryz.prog) w 48 9 5 ⟨g, 0, none⟩ cap l Tryz.underlying48 Tryz.underlying5 Tryz.underlying9 (fun q hq => ?_)
    rw [add_at, Nat.zero_add, cell_of_row w g q cur _ (0, 0) hg]
    have h1 : (cur.toList.take (l.length * 1))[q]? = (bCells l)[q]? := by rw [ht]
    rw [List.getElem?_take_of_lt (by omega), Array.getElem?_toList] at h1
    rw [h1]
    unfold bCells
    rw [List.getElem?_map, List.getElem?_eq_getElem hq]; rfl
set_option linter.unusedSimpArgs false in
set_option maxRecDepth 100000 in
set_option maxHeartbeats 3200000 in
theorem ptext_any (s : ByteArray) (hs : s.size ≤ 281474976710656) (An : Option Addr) (nn cn : Nat) (ns : List ByteArray) (w : World) (hE : WEnv w An nn ns) (hlen : valB 32 s = true → (textV ns (treeB s)).length ≤ 70368744170000) :
    Calls Tryz.prog 7 #[.string s, .slice An nn cn] w fun e w' => e = .returned (.string (textB ns s)) ∧ Below w.heap.size w w' := by
  have HV := hide (valid_any s hs w)
  cases hv : valB 32 s with
  | false =>
    have HM : Hid (textB ns s = ⟨#[]⟩) := Lib.hid (by unfold textB; rw [hv]; rfl)
    rw [hv] at HV
    clear hv hE hlen
    go_enter Tryz.func7, Tryz.ntmps7
    go_wp2_with fail
    refine (unhide HV).mono ?_
    rintro e w1 ⟨rfl, hb1⟩
    have HB1 := hide hb1
    clear hb1
    go_wp2_with fail
    go_ret
    exact ⟨by rw [HM.out]; rfl, unhide HB1⟩
  | true =>
    have HM : Hid (textB ns s = toS (textV ns (treeB s))) := Lib.hid (by unfold textB; rw [hv]; rfl)
    rw [hv] at HV
    have ht := tree_val (Nat.le_refl _) hv
    have HT1 := Lib.hid ht.1
    have HT2 : Hid (bs s = enc (treeB s) ++ []) := Lib.hid (by rw [List.append_nil]; exact ht.2.1)
    have hsz := ht.2.2
    have HL := Lib.hid (hlen hv)
    have HE := Lib.hid hE
    generalize treeB s = v at *
    clear hv hE hlen ht
    go_enter Tryz.func7, Tryz.ntmps7
    go_wp2_with fail
    refine (unhide HV).mono ?_
    rintro e w1 ⟨rfl, hb1⟩
    have HB1 := hide hb1
    have HE1 : Hid (WEnv w1 An nn ns) := Lib.hid ⟨(Go.Lib.tabBelow_of_tabIs HE.out.tab) w1 hb1, HE.out.len, HE.out.le, HE.out.sz, HE.out.row.below hb1⟩
    clear hb1
    go_wp2_with fail
    have hw1 : WSt w1 (w1.alloc (.cells #[.string s, .slice An nn cn, .slice none 0 0] 50)) s An nn cn (.slice none 0 0) [] := ⟨(Below.refl _ _).alloc (Nat.le_refl _) _, Blk.new w1 _ _, World.ownsRow_nil _ _ _ _⟩
    refine (wv_any w1 An nn cn ns HE1.out 32 v [] _ s (.slice none 0 0) [] HT1.out HT2.out (by omega) hw1 (by have := HL.out; simpa using this)).mono ?_
    rintro e w3 ⟨rfl, r3, tv3, -, hw3⟩
    rw [List.nil_append] at hw3
    have c2 : w3.cell? ⟨w1.heap.size, 2, none⟩ = some tv3 := hw3.blk.cell 2
    have hown := hw3.own
    obtain ⟨A3, c3, rfl⟩ := owns_form hown
    have hcv := conv_own hown
    have HB3 : Hid (Below w.heap.size w w3) := hide ((unhide HB1).trans (hw3.below.mono (unhide HB1).size))
    generalize w1.heap.size = g at *
    clear hw3 hown hw1
    go_wp2_with fail
    go_ret
    exact ⟨by rw [HM.out]; rfl, unhide HB3⟩

end Go.Proofs.YtaambeficfiacaaGreatDoor
namespace Go.Proofs.YtaambeficfiacaaGreatDoor
open Go.RowKit VM

set_option linter.unusedSimpArgs false in
set_option maxRecDepth 100000 in
set_option maxHeartbeats 3200000 in
theorem rparts_any (s : ByteArray) (hs : s.size ≤ 281474976710656) (hv : valB 32 s = true) (w : World) :
    Calls Tryz.prog 28 #[.string s] w fun e w' => ∃ A c ps, e = .returned (.slice A ps.length c) ∧ InC w' A (ps.map Value.string) ∧ PartsOf (treeB s) ps ∧ Below w.heap.size w w' ∧ ps.length ≤ c := by
  have HV := hide (rvalid_any s hs w)
  rw [hv] at HV
  have ht := tree_val (Nat.le_refl _) hv
  have HW := Lib.hid (fun w => walk_plain 32 (by decide) s w (by omega))
  have e : decC false 32 (bs s) = some (treeB s, []) := by
    have := decC_of false 32 (treeB s) [] ht.1
    rwa [List.append_nil, ← ht.2.1] at this
  rw [e] at HW
  generalize treeB s = v at *
  clear hv ht e
  go_enter Tryz.func28, Tryz.ntmps28
  go_wp2_with fail
  refine (unhide HV).mono ?_
  rintro e w1 ⟨rfl, hb1⟩
  have HB1 := hide hb1
  clear hb1
  go_wp2_with fail
  refine (HW.out _).mono ?_
  rintro e w2 ⟨A, c, ps, dd, rfl, -, hO, hp, hb2⟩
  have HB2 := hide ((unhide HB1).trans (hb2.mono (unhide HB1).size))
  have HI := hide (InC.own hO)
  have HP := Lib.hid hp
  have HCL : Hid (ps.length ≤ c) := Lib.hid (by
    rcases hO.2 with ⟨q, q2⟩ | ⟨g, cap, cur, q, _, _, q3, _⟩
    · omega
    · injection q with _ _ q4; omega)
  clear hb2 hO hp
  go_wp2_with fail
  go_ret
  exact ⟨A, c, ps, rfl, unhide HI, HP.out, unhide HB2, HCL.out⟩
/-- texts with one separator between them -/
def textJ (ns : List ByteArray) (sep : List UInt8) : Nat → List V → List UInt8
  | _, [] => []
  | i, v :: r => (if i = 0 then [] else sep) ++ textV ns v ++ textJ ns sep (i + 1) r
theorem textJ_app (ns : List ByteArray) (sep : List UInt8) : ∀ (a b : List V) (i : Nat), textJ ns sep i (a ++ b) = textJ ns sep i a ++ textJ ns sep (i + a.length) b
  | [], b, i => by unfold textJ; simp
  | x :: a, b, i => by
    show (if i = 0 then [] else sep) ++ textV ns x ++ textJ ns sep (i + 1) (a ++ b) = (if i = 0 then [] else sep) ++ textV ns x ++ textJ ns sep (i + 1) a ++ _
    rw [textJ_app ns sep a b (i + 1), List.length_cons, ← List.append_assoc, show i + 1 + a.length = i + (a.length + 1) by omega]
theorem textJ_step (ns : List ByteArray) (sep : List UInt8) {l : List V} {j : Nat} {v : V} (h : l[j]? = some v) : textJ ns sep 0 (l.take (j + 1)) = textJ ns sep 0 (l.take j) ++ ((if j = 0 then [] else sep) ++ textV ns v) := by
  have hj : j < l.length := (List.getElem?_eq_some_iff.1 h).1
  rw [List.take_add_one, h, Option.toList_some, textJ_app]
  rw [List.length_take, show 0 + min j l.length = j by omega]
  show _ ++ ((if j = 0 then [] else sep) ++ textV ns v ++ textJ ns sep (j + 1) []) = _
  unfold textJ
  rw [List.append_nil]
theorem textJ_le (ns : List ByteArray) (sep : List UInt8) (l : List V) (j : Nat) : (textJ ns sep 0 (l.take j)).length ≤ (textJ ns sep 0 l).length := by
  conv => rhs; rw [← List.take_append_drop j l, textJ_app, List.length_append]
  omega
/-- the two writings agree -/
theorem textsV_J (ns : List ByteArray) (k : UInt8) (sep : List UInt8) (h : ∀ i, sepT k i = sep) : ∀ (l : List V) (i : Nat), textsV ns k i l = textJ ns sep i l
  | [], i => rfl
  | v :: r, i => by
    show (if i = 0 then [] else sepT k i) ++ textV ns v ++ textsV ns k (i + 1) r = (if i = 0 then [] else sep) ++ textV ns v ++ textJ ns sep (i + 1) r
    rw [h i, textsV_J ns k sep h r (i + 1)]
/-- the reference's Text at depth d -/
def RtCon (ns : List ByteArray) (nn cn d : Nat) : Prop := ∀ (v : V) (s : ByteArray) (W : World) (An : Option Addr), wf d v = true → bs s = enc v → s.size ≤ 131072 → InC W An (ns.map Value.string) → (textV ns v).length ≤ 70368744170000 →
  Calls Tryz.prog 8 #[.string s, .slice An nn cn] W fun e w' => e = .returned (.string (toS (textV ns v))) ∧ Below W.heap.size W w'
theorem toS_app (a b : List UInt8) : toS a ++ toS b = toS (a ++ b) := by
  apply ByteArray.ext
  simp [toS]
set_option linter.unusedSimpArgs false in
set_option maxRecDepth 100000 in
set_option maxHeartbeats 6400000 in
theorem joined_any (d : Nat) (ns : List ByteArray) (nn cn : Nat) (ih : RtCon ns nn cn d) (l : List V) (ps : List ByteArray) (hw : ∀ v ∈ l, wf d v = true) (hp : ps.map bs = l.map enc) (hs : ∀ s ∈ ps, s.size ≤ 131072) (sep : List UInt8) (A An : Option Addr) (n c : Nat) (hn : n = ps.length) (hn1 : n ≤ 1048576) (w : World) (hI : InC w A (ps.map Value.string)) (hN : InC w An (ns.map Value.string)) (hlen : (textJ ns sep 0 l).length ≤ 70368744170000) :
    Calls Tryz.prog 32 #[.slice A n c, .slice An nn cn, .string (toS sep)] w fun e w' => e = .returned (.string (toS (textJ ns sep 0 l))) ∧ Below w.heap.size w w' := by
  have HIH := Lib.hid ih
  unfold RtCon at HIH
  have HI := hide hI
  have HNI := hide hN
  have HN := Lib.hid hn
  have HWF := Lib.hid hw
  have HS := Lib.hid hs
  have HPL : Hid (l.length = ps.length) := Lib.hid (by have := congrArg List.length hp; simpa using this.symm)
  have HP := Lib.hid hp
  have HL := Lib.hid hlen
  clear ih hI hN hn hw hs hp hlen
  go_enter Tryz.func32, Tryz.ntmps32
  go_wp2_with fail
  go_loopw [7, 8] (fun sv iv wr => ∃ (j : Nat) (tj : List UInt8), sv = .string (toS tj) ∧ iv = .int .i64 j ∧ j ≤ n ∧ Hid (tj = textJ ns sep 0 (l.take j)) ∧ Hid (Below w.heap.size w wr)) (fun _ iv _ => n - (intOf iv).toNat)
  case atStart => exact ⟨0, [], rfl, rfl, by omega, Lib.hid (by rw [List.take_zero]; rfl), Below.refl _ _⟩
  case round =>
    obtain ⟨j, tj, rfl, rfl, hj, hT, hB⟩ := hrel
    by_cases hjn : j < n
    · obtain ⟨u, hu⟩ : ∃ u, ps[j]? = some u := ⟨ps[j]'(by have := HN.out; omega), List.getElem?_eq_getElem _⟩
      obtain ⟨v, hv⟩ : ∃ v, l[j]? = some v := ⟨l[j]'(by have := HN.out; have := HPL.out; omega), List.getElem?_eq_getElem _⟩
      have hue : bs u = enc v := by
        have h1 : (ps.map bs)[j]? = (l.map enc)[j]? := by rw [HP.out]
        rw [List.getElem?_map, List.getElem?_map, hu, hv] at h1
        exact Option.some.inj h1
      obtain ⟨b5, o5, hA1, hb5, hc5⟩ := at1s ((unhide HI).below hB.out) (i := j) (u := .string u) (by rw [List.getElem?_map, hu]; rfl)
      subst hA1
      have HST := Lib.hid (textJ_step ns sep hv)
      have HLE : Hid (tj.length + (if j = 0 then [] else sep).length + (textV ns v).length ≤ 70368744170000) := Lib.hid (by
        have q1 := congrArg List.length HST.out
        have q2 := textJ_le ns sep l (j + 1)
        have q3 := congrArg List.length hT.out
        have q4 := HL.out
        rw [List.length_append, List.length_append] at q1
        omega)
      have HTE : Hid (tj ++ (if j = 0 then [] else sep) ++ textV ns v = textJ ns sep 0 (l.take (j + 1))) := Lib.hid (by rw [HST.out, hT.out, List.append_assoc])
      have HC := Lib.hid (fun W (hN : InC W An (ns.map Value.string)) => HIH.out v u W An (HWF.out v (List.mem_of_getElem? hv)) hue (HS.out u (List.mem_of_getElem? hu)) hN (by have := HLE.out; omega))
      have HNW := hide ((unhide HNI).below hB.out)
      clear hu hv hue
      by_cases hj0 : j = 0
      · subst hj0
        rw [if_pos rfl, List.append_nil] at HTE
        rw [Nat.add_zero] at hc5
        go_wp2_with fail
        refine (HC.out _ (unhide HNW)).mono ?_
        rintro e w3 ⟨rfl, hb3⟩
        have HB3 := hide (hB.out.trans (hb3.mono hB.out.size))
        clear hb3
        have hz1 : (toS tj).size = tj.length := rfl
        have hz2 : (toS (textV ns v)).size = (textV ns v).length := rfl
        have hz3 : tj.length + (textV ns v).length ≤ 70368744170000 := by have := HLE.out; simp at this; omega
        go_wp2_with fail
        rw [toS_app]
        go_roundw
        case rel => exact ⟨0 + 1, _, rfl, by go_num, by omega, HTE.out, unhide HB3⟩
        case measure => simp [intOf]; omega
      · rw [if_neg hj0] at HTE HLE
        have pj : (0 : Int) < (j : Int) := by omega
        have hz1 : (toS tj).size = tj.length := rfl
        have hz2 : (toS sep).size = sep.length := rfl
        have hz3 : (toS (textV ns v)).size = (textV ns v).length := rfl
        have hz5 : tj.length + sep.length + (textV ns v).length ≤ 70368744170000 := HLE.out
        have hz4 : (toS tj ++ toS sep).size = tj.length + sep.length := by rw [ByteArray.size_append, hz1, hz2]
        go_wp2_with fail
        refine (HC.out _ (unhide HNW)).mono ?_
        rintro e w3 ⟨rfl, hb3⟩
        have HB3 := hide (hB.out.trans (hb3.mono hB.out.size))
        clear hb3
        go_wp2_with fail
        rw [toS_app, toS_app]
        go_roundw
        case rel => exact ⟨j + 1, _, rfl, by go_num, by omega, HTE.out, unhide HB3⟩
        case measure => simp [intOf]; omega
    · have HE : Hid (tj = textJ ns sep 0 l) := Lib.hid (by rw [hT.out, List.take_of_length_le (by have := HN.out; have := HPL.out; omega)])
      go_wp2_with fail
      go_ret
      exact ⟨by rw [← HE.out]; rfl, hB.out⟩

end Go.Proofs.YtaambeficfiacaaGreatDoor
