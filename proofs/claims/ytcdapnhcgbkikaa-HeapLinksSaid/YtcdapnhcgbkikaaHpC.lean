/- validRefs, find. Conditions: at most 2^43 references. -/
import Derived.Test.YtcdapnhcgbkikaaHpB
namespace Go.Proofs.Ytcdapnhcgbkikaa
open Go.RowKit

def okR (n r : Int) : Bool := decide (0 ≤ r) && decide (r < n)
theorem all_bad {α : Type} {p : α → Bool} {l : List α} {i : Nat} {x : α} (h : l[i]? = some x) (hp : p x = false) : l.all p = false := by
  rw [List.all_eq_false]
  exact ⟨x, List.mem_of_getElem? h, by rw [hp]; decide⟩
theorem all_take {α : Type} {p : α → Bool} {l : List α} {i : Nat} {x : α} (h : l[i]? = some x) (h1 : (l.take i).all p = true) (hp : p x = true) : (l.take (i + 1)).all p = true := by
  rw [List.take_add_one, h, List.all_append, h1]
  simp [hp]
set_option maxRecDepth 100000 in
set_option maxHeartbeats 3200000 in
theorem validRefs_any (l : List Int) (A : Option Addr) (n c : Nat) (size : Int) (w : World) (hn : n = l.length) (hl : n ≤ 8796093022208) (hA : InC w A (intV l)) :
    Calls Try.prog 38 #[.slice A n c, .int .i64 size] w fun e w' => e = .returned (.bool (refsB l size)) ∧ w' = w := by
  have HE : Hid (refsB l size = (decide (n ≤ 4096) && l.all (okR size))) := Lib.hid (by rw [hn]; rfl)
  rw [HE.out]
  clear HE
  have HA := hide hA
  have HN := Lib.hid hn
  clear hA hn
  by_cases h4 : n ≤ 4096
  · have g4 : decide ((4096 : Int) < (n : Int)) = false := decide_eq_false (by omega)
    rw [decide_eq_true h4, Bool.true_and]
    obtain ⟨b, hb⟩ : ∃ b, Hid (l.all (okR size) = b) := ⟨_, Lib.hid rfl⟩
    rw [hb.out]
    go_enter Try.func38, Try.ntmps38
    go_wp2_with fail
    go_loopw [12] (fun iv wr => ∃ j : Nat, iv = .int .i64 j ∧ j ≤ n ∧ Hid ((l.take j).all (okR size) = true) ∧ wr = w) (fun iv _ => n - (intOf iv).toNat)
    case atStart => exact ⟨0, rfl, by omega, Lib.hid rfl, rfl⟩
    case round =>
      obtain ⟨j, rfl, hj, hT, rfl⟩ := hrel
      by_cases hjn : j < n
      · obtain ⟨z, hz⟩ : ∃ z, l[j]? = some z := ⟨_, List.getElem?_eq_getElem (by rw [← HN.out]; exact hjn)⟩
        obtain ⟨b0, off, e, hb0, hc⟩ := int_at (unhide HA) hz
        subst e
        have HZ := Lib.hid hz
        clear hz
        have i0 : (0 : Int) ≤ (j : Int) := by omega
        have i1 : (j : Int) < (n : Int) := by omega
        by_cases h0 : z < 0
        · have g0 : decide (z < 0) = true := decide_eq_true h0
          have HQ : Hid (b = false) := Lib.hid (by rw [← hb.out]; exact all_bad HZ.out (by unfold okR; rw [decide_eq_false (by omega), Bool.false_and]))
          go_wp2_with fail
          go_ret
          exact ⟨by rw [HQ.out]; rfl, rfl⟩
        · have g0 : decide (z < 0) = false := decide_eq_false h0
          by_cases h1 : size ≤ z
          · have g1 : decide (size ≤ z) = true := decide_eq_true h1
            have HQ : Hid (b = false) := Lib.hid (by rw [← hb.out]; exact all_bad HZ.out (by unfold okR; rw [decide_eq_false (show ¬ z < size by omega), Bool.and_false]))
            go_wp2_with fail
            go_ret
            exact ⟨by rw [HQ.out]; rfl, rfl⟩
          · have g1 : decide (size ≤ z) = false := decide_eq_false h1
            have HT2 : Hid ((l.take (j + 1)).all (okR size) = true) := Lib.hid (all_take HZ.out hT.out (by unfold okR; rw [decide_eq_true (show 0 ≤ z by omega), decide_eq_true (show z < size by omega)]; rfl))
            go_wp2_with fail
            go_roundw
            case rel => exact ⟨j + 1, by go_num, by omega, HT2.out, trivial⟩
            case measure => simp [intOf]; omega
      · have HQ : Hid (b = true) := Lib.hid (by rw [← hb.out]; have := hT.out; rwa [List.take_of_length_le (by rw [← HN.out]; omega)] at this)
        go_wp2_with fail
        go_ret
        exact ⟨by rw [HQ.out]; rfl, rfl⟩
  · have g4 : decide ((4096 : Int) < (n : Int)) = true := decide_eq_true (by omega)
    rw [decide_eq_false h4, Bool.false_and]
    go_enter Try.func38, Try.ntmps38
    go_wp2_with fail
    go_ret
    exact ⟨rfl, rfl⟩

/-! links, by what is kept beside a cell -/
structure Lnk (cs : List PC) (Fn rk : Nat → Nat) : Prop where
  at_ : ∀ (i : Nat) (x : PC), cs[i]? = some x → x.kind = 3 → ∃ a : Nat, x.ahead = (a : Int) ∧ a < cs.length ∧ rk a < rk i ∧ Fn a = Fn i
  self : ∀ (i : Nat) (x : PC), cs[i]? = some x → x.kind ≠ 3 → Fn i = i
  out : ∀ i : Nat, cs.length ≤ i → Fn i = i
def PC.cv (x : PC) : Cel × Value := (x.cel, x.v)
/-- the same cells but for what is kept beside them -/
def Same (cs ds : List PC) : Prop := ds.map PC.cv = cs.map PC.cv
theorem Same.refl (cs : List PC) : Same cs cs := rfl
theorem Same.trans {a b c : List PC} (h : Same a b) (k : Same b c) : Same a c := Eq.trans (b := b.map PC.cv) k h
theorem Same.len {cs ds : List PC} (h : Same cs ds) : ds.length = cs.length := by
  have := congrArg List.length h
  simpa using this
theorem Same.at_ {cs ds : List PC} (h : Same cs ds) {i : Nat} {y : PC} (hy : ds[i]? = some y) : ∃ x, cs[i]? = some x ∧ x.kind = y.kind ∧ x.num = y.num ∧ x.refs = y.refs ∧ x.v = y.v := by
  have q := congrArg (fun l => l[i]?) h
  simp only [List.getElem?_map, hy] at q
  cases hx : cs[i]? with
  | none => rw [hx] at q; cases q
  | some x =>
    rw [hx] at q
    simp only [Option.map_some, Option.some.injEq] at q
    unfold PC.cv PC.cel at q
    injection q with q1 q2
    injection q1 with q3 q4
    injection q4 with q5 q6
    exact ⟨x, rfl, q3.symm, q5.symm, q6.symm, q2.symm⟩
theorem Same.symm {cs ds : List PC} (h : Same cs ds) : Same ds cs := Eq.symm h
theorem Same.cel {cs ds : List PC} (h : Same cs ds) : ds.map PC.cel = cs.map PC.cel := by
  have q := congrArg (List.map Prod.fst) h
  rw [List.map_map, List.map_map] at q
  exact q
theorem flat_ahead : ∀ (cs : List PC) (i : Nat) (x : PC) (a : Int), cs[i]? = some x → (cs.flatMap cellsP).set (i * 4 + 3) (.int .i64 a) = (cs.set i { x with ahead := a }).flatMap cellsP
  | [], _, _, _, h => by simp at h
  | c :: r, 0, x, a, h => by
    simp at h
    subst h
    rfl
  | c :: r, i + 1, x, a, h => by
    rw [List.set_cons_succ, List.flatMap_cons, List.flatMap_cons, ← flat_ahead r i x a (by simpa using h), show (i + 1) * 4 + 3 = 4 + (i * 4 + 3) by omega, List.set_append_right _ _ (by rw [cellsP_len]; omega), cellsP_len, Nat.add_sub_cancel_left]
theorem set_self_at {α : Type} {cs : List α} {i : Nat} {x : α} (h : cs[i]? = some x) (y : α) : (cs.set i y)[i]? = some y := by
  rw [List.getElem?_set_self (List.getElem?_eq_some_iff.1 h).1]
theorem Lnk.ahead {cs : List PC} {Fn rk : Nat → Nat} (h : Lnk cs Fn rk) {i a : Nat} {x : PC} (hi : cs[i]? = some x) (hk : x.kind = 3) (ha : a < cs.length) (hr : rk a < rk i) (hf : Fn a = Fn i) : Lnk (cs.set i { x with ahead := (a : Int) }) Fn rk := by
  have hs : ∀ (j : Nat) (y : PC), (cs.set i { x with ahead := (a : Int) })[j]? = some y → (j ≠ i ∧ cs[j]? = some y) ∨ (j = i ∧ y = { x with ahead := (a : Int) }) := by
    intro j y hy
    by_cases hj : i = j
    · subst hj
      rw [set_self_at hi] at hy
      exact .inr ⟨rfl, (Option.some.inj hy).symm⟩
    · rw [List.getElem?_set_ne hj] at hy
      exact .inl ⟨fun q => hj q.symm, hy⟩
  refine ⟨fun j y hy hyk => ?_, fun j y hy hyk => ?_, fun j hj => h.out j (by simpa using hj)⟩
  · rw [List.length_set]
    rcases hs j y hy with ⟨_, q⟩ | ⟨q1, q2⟩
    · exact h.at_ j y q hyk
    · subst q1 q2
      exact ⟨a, rfl, ha, hr, hf⟩
  · rcases hs j y hy with ⟨_, q⟩ | ⟨q1, q2⟩
    · exact h.self j y q hyk
    · subst q2
      exact absurd hk hyk
theorem same_set {cs : List PC} {i : Nat} {x : PC} (hi : cs[i]? = some x) (a : Int) : Same cs (cs.set i { x with ahead := a }) := by
  unfold Same
  rw [List.map_set]
  apply List.ext_getElem?
  intro j
  by_cases hj : i = j
  · subst hj
    have hl := (List.getElem?_eq_some_iff.1 hi).1
    rw [List.getElem?_set_self (by simpa using hl), List.getElem?_map, hi]
    rfl
  · rw [List.getElem?_set_ne hj]
/-- the heap with its links -/
structure PL (w : World) (S : Nat → Prop) (g : Nat) (most : Int) (cs : List PC) (A : Option Addr) (n c : Nat) (Fn rk : Nat → Nat) : Prop where
  hp : HP w S g most cs A n c
  lk : Lnk cs Fn rk
theorem PL.keep {w w' : World} {S : Nat → Prop} {g : Nat} {most : Int} {cs : List PC} {A : Option Addr} {n c : Nat} {Fn rk : Nat → Nat} (h : PL w S g most cs A n c Fn rk) (hk : Keep S w w') : PL w' S g most cs A n c Fn rk := ⟨h.hp.keep hk, h.lk⟩
theorem PL.below {w w' : World} {S : Nat → Prop} {g : Nat} {most : Int} {cs : List PC} {A : Option Addr} {n c : Nat} {Fn rk : Nat → Nat} (h : PL w S g most cs A n c Fn rk) (hb : Below w.heap.size w w') : PL w' S g most cs A n c Fn rk := ⟨h.hp.below hb, h.lk⟩
theorem PL.keep_alloc {w : World} {S : Nat → Prop} {g : Nat} {most : Int} {cs : List PC} {A : Option Addr} {n c : Nat} {Fn rk : Nat → Nat} (h : PL w S g most cs A n c Fn rk) (o : Obj) : PL (w.alloc o) S g most cs A n c Fn rk := h.below ((Below.refl _ _).alloc (Nat.le_refl _) o)
theorem PL.ahead {w : World} {S : Nat → Prop} {g : Nat} {most : Int} {cs : List PC} {A : Option Addr} {n c : Nat} {Fn rk : Nat → Nat} (h : PL w S g most cs A n c Fn rk) {i a b : Nat} {x : PC} (hA : A = some ⟨b, 0, none⟩) (hi : cs[i]? = some x) (hk : x.kind = 3) (ha : a < cs.length) (hr : rk a < rk i) (hf : Fn a = Fn i) :
    PL (w.setCell ⟨b, i * 4 + 3, none⟩ (.int .i64 (a : Int))) S g most (cs.set i { x with ahead := (a : Int) }) A n c Fn rk ∧ Keep (Out S w) w (w.setCell ⟨b, i * 4 + 3, none⟩ (.int .i64 (a : Int))) := by
  subst hA
  have hs := h.hp.row.stored (i * 4 + 3) (.int .i64 (a : Int))
  have hbS : S b := h.hp.rowS b rfl
  refine ⟨⟨?_, h.lk.ahead hi hk ha hr hf⟩, (Keep.refl _ w).setCell (fun q => q.2 hbS) _⟩
  refine h.hp.set_ (S' := S) (i := i) (by decide) (by decide) ((Keep.refl _ w).setCell (fun q => q.2 rfl) _) ?_ ?_ ?_ (fun _ q => q) (fun k q => by simpa [World.setCell] using h.hp.lt k q)
  · rw [← flat_ahead cs i x a hi]
    exact hs.1
  · exact owns_set (h.hp.refs i x hi) (fun e => own_own_ne (h.hp.refs i x hi) h.hp.row (by decide) b e rfl) _
  · intro b' hb'
    exact ⟨h.hp.refS i x b' hi hb', fun j y hj hy hyb => hj (h.hp.apart j i y x b' hy hi hyb hb')⟩
def FindPost (w : World) (S : Nat → Prop) (g : Nat) (most : Int) (cs : List PC) (A : Option Addr) (n c : Nat) (Fn rk : Nat → Nat) (r : Nat) (e : Ending) (w' : World) : Prop :=
  ∃ cs', e = .returned (.int .i64 (Fn r)) ∧ PL w' S g most cs' A n c Fn rk ∧ Same cs cs' ∧ Keep (Out S w) w w'
set_option maxRecDepth 100000 in
set_option maxHeartbeats 6400000 in
theorem find_any {w : World} {S : Nat → Prop} {g : Nat} {most : Int} {cs : List PC} {A : Option Addr} {n c : Nat} {Fn rk : Nat → Nat} (h : PL w S g most cs A n c Fn rk) {r : Nat} (hr : r < n) :
    Calls Try.prog 41 #[.pointer (some ⟨g, 0, none⟩), .int .i64 r] w (FindPost w S g most cs A n c Fn rk r) := by
  have HH := hide h
  clear h
  go_enter Try.func41, Try.ntmps41
  go_wp2_with fail
  go_loopw [1] (fun iv wr => ∃ (j : Nat) (ds : List PC), iv = .int .i64 j ∧ j < n ∧ Hid (Fn j = Fn r) ∧ Hid (PL wr S g most ds A n c Fn rk) ∧ Hid (Same cs ds) ∧ Hid (Keep (Out S w) w wr)) (fun iv _ => rk (intOf iv).toNat)
  case atStart => exact ⟨r, cs, rfl, hr, Lib.hid rfl, HH, Lib.hid rfl, Lib.hid (Keep.refl _ _)⟩
  case round =>
    obtain ⟨j, ds, rfl, hj, hF, hP, hS, hK⟩ := hrel
    have hlen := hP.out.hp.len cellsP_len (by decide)
    obtain ⟨x, hx⟩ : ∃ x, ds[j]? = some x := ⟨_, List.getElem?_eq_getElem (by rw [← hlen]; exact hj)⟩
    have HL := hide (isLink_any hP.out.hp hx)
    cases hk : x.kind == 3 with
    | false =>
      rw [hk] at HL
      have HQ : Hid (Fn r = j) := Lib.hid (by rw [← hF.out]; exact hP.out.lk.self j x hx (by simpa using hk))
      clear hlen hx hk
      go_wp2_with fail
      refine (unhide HL).mono ?_
      rintro e w1 ⟨rfl, hw1⟩
      subst hw1
      go_wp2_with fail
      go_ret
      exact ⟨ds, by rw [HQ.out]; rfl, hP.out, hS.out, hK.out⟩
    | true =>
      rw [hk] at HL
      obtain ⟨a, hxa, ha, hra, hfa⟩ := hP.out.lk.at_ j x hx (by simpa using hk)
      have b1 := hP.out.hp.box1
      obtain ⟨b, hA, hb, hnc, hin, ⟨c0, c1, c2, c3⟩, hf⟩ := hP.out.hp.at_ hx
      subst hA
      rw [hxa] at c3
      have f3 := hf (j * 4 + 3)
      obtain ⟨y, hy⟩ : ∃ y, ds[a]? = some y := ⟨_, List.getElem?_eq_getElem ha⟩
      have HL2 := hide (isLink_any hP.out.hp hy)
      have HX := Lib.hid hx
      have HY := Lib.hid hy
      have HA2 := Lib.hid ha
      have HRA := Lib.hid hra
      have HFA := Lib.hid hfa
      have HXK : Hid (x.kind = 3) := Lib.hid (by simpa using hk)
      have g0 : (0 : Int) ≤ (j : Int) := by omega
      have g1 : (j : Int) < (n : Int) := by omega
      have han : a < n := by rw [hlen]; exact ha
      have g2 : (0 : Int) ≤ (a : Int) := by omega
      have g3 : (a : Int) < (n : Int) := by omega
      cases hk2 : y.kind == 3 with
      | false =>
        rw [hk2] at HL2
        clear hlen hx hk hy hxa ha hra hfa hf hk2 c0 c1 c2
        go_wp2_with fail
        refine (unhide HL).mono ?_
        rintro e w1 ⟨rfl, hw1⟩
        subst hw1
        go_wp2_with fail
        refine (unhide HL2).mono ?_
        rintro e w1 ⟨rfl, hw1⟩
        subst hw1
        go_wp2_with fail
        go_roundw
        case rel => exact ⟨a, ds, rfl, han, Lib.hid (HFA.out.trans hF.out), hP, hS, hK⟩
        case measure => simp only [intOf, Int.toNat_natCast]; exact HRA.out
      | true =>
        rw [hk2] at HL2
        obtain ⟨a2, hya, ha2, hra2, hfa2⟩ := hP.out.lk.at_ a y hy (by simpa using hk2)
        obtain ⟨b', hA', _, _, _, ⟨_, _, _, d3⟩, _⟩ := hP.out.hp.at_ hy
        have hbb : b = b' := by
          injection hA' with q
          injection q
        subst hbb
        rw [hya] at d3
        have HN := hide (hP.out.ahead rfl HX.out HXK.out ha2 (Nat.lt_trans hra2 HRA.out) (hfa2.trans HFA.out))
        have HS2 := Lib.hid (hS.out.trans (same_set HX.out (a2 : Int)))
        have HF2 := Lib.hid (hfa2.trans (HFA.out.trans hF.out))
        have HR2 := Lib.hid (Nat.lt_trans hra2 HRA.out)
        have han2 : a2 < n := by rw [hlen]; exact ha2
        clear hlen hx hk hy hxa ha hra hfa hf hk2 c0 c1 c2 hya ha2 hra2 hfa2 hA'
        go_wp2_with fail
        refine (unhide HL).mono ?_
        rintro e w1 ⟨rfl, hw1⟩
        subst hw1
        go_wp2_with fail
        refine (unhide HL2).mono ?_
        rintro e w1 ⟨rfl, hw1⟩
        subst hw1
        go_wp2_with fail
        go_roundw
        case rel => exact ⟨a2, _, rfl, han2, HF2, Lib.hid (unhide HN).1, HS2, Lib.hid (keep_trans hK.out (unhide HN).2)⟩
        case measure => simp only [intOf, Int.toNat_natCast]; exact HR2.out
end Go.Proofs.Ytcdapnhcgbkikaa
