/- Openings of arguments: slices of elements of several cells; from a call to its row. No conditions. -/
import Derived.Test.YtcdapnhcgbkikaaB0
import Derived.ProofKit
import Derived.LaidMore
import Derived.OpenShut
import Derived.Stop.Joined
import Derived.Stop.LaidErr
import Derived.Lay
import Derived.MakeChecks
import Derived.Deep.Slices
import Derived.SizedLaws
namespace Go.Proofs.Ytcdapnhcgbkikaa
open Go Go.ChangeShapes Go.WideShapes Go.ChangeAt Go.RowKit
open Go.WideMaps Go.WideElems

theorem flat_get {α : Type} {f : α → List Value} {z : Nat} (hf : ∀ t, (f t).length = z) (hz : 0 < z) : ∀ (ts : List α) (i : Nat) (u : Value), (ts.flatMap f)[i]? = some u → ∃ t, ts[i / z]? = some t ∧ (f t)[i % z]? = some u := by
  intro ts
  induction ts with
  | nil => intro i u h; simp at h
  | cons a r ih =>
    intro i u h
    rw [List.flatMap_cons] at h
    by_cases hi : i < z
    · rw [List.getElem?_append_left (by rw [hf]; exact hi)] at h
      exact ⟨a, by rw [Nat.div_eq_of_lt hi]; rfl, by rw [Nat.mod_eq_of_lt hi]; exact h⟩
    · rw [List.getElem?_append_right (by rw [hf]; omega), hf] at h
      obtain ⟨t, h1, h2⟩ := ih (i - z) u h
      have e : i = (i - z) + z := by omega
      refine ⟨t, ?_, ?_⟩
      · rw [e, Nat.add_div_right _ hz, List.getElem?_cons_succ]; exact h1
      · rw [e, Nat.add_mod_right]; exact h2
theorem list_of {α : Type} {p : Nat → α → Prop} : ∀ (n : Nat), (∀ i, i < n → ∃ t, p i t) → ∃ ts : List α, ts.length = n ∧ ∀ i t, ts[i]? = some t → p i t := by
  intro n
  induction n with
  | zero => intro _; exact ⟨[], rfl, fun i t h => by simp at h⟩
  | succ n ih =>
    intro h
    obtain ⟨ts, hl, hp⟩ := ih (fun i hi => h i (by omega))
    obtain ⟨t, ht⟩ := h n (by omega)
    refine ⟨ts ++ [t], by simp [hl], fun i u hu => ?_⟩
    by_cases hi : i < ts.length
    · rw [List.getElem?_append_left hi] at hu; exact hp i u hu
    · rw [List.getElem?_append_right (by omega)] at hu
      have h0 : i - ts.length = 0 := by
        by_cases h0 : i - ts.length = 0
        · exact h0
        · rw [List.getElem?_eq_none (by simp; omega)] at hu; simp at hu
      rw [h0] at hu
      have e : i = n := by omega
      simp at hu
      rw [e, ← hu]; exact ht

section
variable {H : Type} {enc : TypeId × Value → H} {P : Program}
set_option maxRecDepth 100000 in
theorem slice_in_cs {W : World} {t e : TypeId} {fuel : Nat} {cs : List Value} {x : DataW H × List MemPlace} {α : Type} {f : α → List Value} {z : Nat} {R : α → Prop} (ht : P.underlying t = some (.slice e)) (hz : P.cellsOf e = z) (hf : ∀ t, (f t).length = z) (hz0 : 0 < z)
    (hel : ∀ {fuel : Nat} {cs : List Value} {x : DataW H × List MemPlace}, DataW.trod enc P W 0 (fun _ => true) true fuel e cs = some x → ∃ t, cs = f t ∧ R t)
    (h : DataW.trod enc P W 0 (fun _ => true) true fuel t cs = some x) :
    ∃ (a : Option Addr) (n c : Nat) (ts : List α), cs = [.slice a n c] ∧ n = ts.length ∧ n ≤ maxLen ∧ n ≤ c ∧ InC W a (ts.flatMap f) ∧ ∀ t ∈ ts, R t := by
  rcases Go.Deep.open_slice ht h with ⟨hcs, hx⟩ | ⟨a', len, cap, m, q, D, Pl, hcs, _, hl, hmx, hm, hx, hi⟩
  · exact ⟨none, 0, 0, [], hcs, rfl, Nat.zero_le _, Nat.le_refl _, .inl rfl, fun t ht => by simp at ht⟩
  · simp only [if_true] at hm
    have h1 : ∀ i, i < len → ∃ t : α, (∀ r u, (f t)[r]? = some u → W.cell? (a'.add (i * z + r)) = some u) ∧ R t := by
      intro i hin
      obtain ⟨cs', hc, ht'⟩ := hi i (by omega)
      obtain ⟨t, rfl, hR⟩ := hel ht'
      obtain ⟨_, _, hat⟩ := World.cells?_some hc
      refine ⟨t, fun r u hu => ?_, hR⟩
      have hr : r < z := by have := (List.getElem?_eq_some_iff.1 hu).1; rwa [hf] at this
      have := hat r (by rw [hz]; exact hr)
      rw [hz, hu, Addr.add_add] at this
      exact this
    obtain ⟨ts, hts, hp⟩ := list_of len h1
    refine ⟨some a', len, cap, ts, hcs, hts.symm, by omega, hl, ?_, fun t ht => ?_⟩
    · by_cases h0 : len = 0
      · have : ts = [] := List.eq_nil_of_length_eq_zero (by omega)
        subst this
        exact .inl rfl
      · obtain ⟨t0, ht0⟩ : ∃ t, ts[0]? = some t := ⟨ts[0], List.getElem?_eq_getElem (by omega)⟩
        obtain ⟨u0, hu0⟩ : ∃ u, (f t0)[0]? = some u := ⟨(f t0)[0]'(by rw [hf]; exact hz0), List.getElem?_eq_getElem _⟩
        have hc0 := (hp 0 t0 ht0).1 0 u0 hu0
        obtain ⟨b, off, s⟩ := a'
        have hs : s = none := by simpa [Addr.add] using World.cell?_spot hc0
        subst hs
        refine .inr ⟨b, off, rfl, ?_, fun i u hu => ?_⟩
        · rw [Addr.add_lit] at hc0
          rcases Nat.lt_or_ge b W.heap.size with hlt | hge
          · exact hlt
          · simp [World.cell?, Array.getElem?_eq_none hge] at hc0
        · obtain ⟨t, h2, h3⟩ := flat_get hf hz0 ts i u hu
          have := (hp _ t h2).1 _ u h3
          rw [Addr.add_lit] at this
          have e : i / z * z + i % z = i := by rw [Nat.mul_comm]; exact Nat.div_add_mod i z
          rwa [e] at this
    · obtain ⟨i, hi'⟩ := List.mem_iff_getElem?.1 ht
      exact (hp i t hi').2
theorem slice_in {W : World} {t e : TypeId} {α : Type} {f : α → List Value} {z : Nat} {R : α → Prop} (ht : P.underlying t = some (.slice e)) (hz : P.cellsOf e = z) (hf : ∀ t, (f t).length = z) (hz0 : 0 < z)
    (hel : ∀ {fuel : Nat} {cs : List Value} {x : DataW H × List MemPlace}, DataW.trod enc P W 0 (fun _ => true) true fuel e cs = some x → ∃ t, cs = f t ∧ R t)
    {a : Option Addr} {n c : Nat} {d : DataW H} {p : List MemPlace} (h : DataW.Trod enc P W 0 (fun _ => true) true t (.slice a n c) d p) :
    ∃ ts : List α, n = ts.length ∧ n ≤ maxLen ∧ n ≤ c ∧ InC W a (ts.flatMap f) ∧ ∀ t ∈ ts, R t := by
  obtain ⟨fuel, hq⟩ := h
  obtain ⟨a', n', c', ts, hcs, h1, h2, h3, h4, h5⟩ := slice_in_cs ht hz hf hz0 hel hq
  simp [Value.cells] at hcs
  obtain ⟨rfl, rfl, rfl⟩ := hcs
  exact ⟨ts, h1, h2, h3, h4, h5⟩
end

theorem cells_i64 : Try.prog.cellsOf 3 = 1 := by kernel_rfl

theorem own : ownKnob Try.prog.godebug = none := by kernel_rfl
theorem laidOut : laidOutB Try.prog = true := by kernel_rfl

section
variable {H : Type} {enc : TypeId × Value → H} {P : Program}
/-- the row's last step where all that was there is as it was and the call has made new blocks -/
theorem post_below {f : Func} {s : ChangeSpec} {apart fresh handsOn again : Bool} {W W' : World} {args : Array Value} {v : Value} {ds gs : List (DataW H)} {before pa pv : List MemPlace}
    (hW : DataW.Whole enc P f.params.toList s.vars apart W args.toList ds gs before)
    (hres : ∀ (b : Nat) (sp : Nat → Bool) (hd : Bool), DataW.TrodAll enc P W' b sp hd f.resultTypes.toList (v.resultList f.resultTypes.size) (s.fn H (ds ++ gs)).results [])
    (hargs : ∀ sp : Nat → Bool, (∀ p ∈ before, sp p.block = true) → DataW.TrodAll enc P W' 0 sp true f.params.toList args.toList (s.fn H (ds ++ gs)).args pa)
    (hvars : ∀ sp : Nat → Bool, (∀ p ∈ before, sp p.block = true) → DataW.TrodVars enc P W' sp s.vars (s.fn H (ds ++ gs)).vars pv)
    (hps : before = pa ++ pv) (hb : Below W.heap.size W W')
    (hok : ∀ (j : Nat) (t : TypeId) (r : Value), f.resultTypes[j]? = some t → (v.resultList f.resultTypes.size)[j]? = some r → Value.okWide P W' .any 0 t r) :
    s.post enc P f apart fresh handsOn again W args v W' := by
  have hlt : ∀ p ∈ before, p.block < W.heap.size := fun p hp => hW.lt p hp
  have hold : ∀ p ∈ before, (fun b => decide (b < W.heap.size)) p.block = true := fun p hp => by simpa using hlt p hp
  refine ⟨ds, gs, before, [], pa, pv, hW, hres _ _ _, hargs _ hold, hvars _ hold, World.keptBut_mono (fun p hp => ⟨hp, ?_⟩) (hb.frame (· ∈ before)), fun _ => ?_⟩
  · rw [hps, List.mem_append] at hp
    exact Or.inr hp
  · obtain ⟨_, _, _, _, _, hz, hn⟩ := hW
    refine ⟨hok, _, _, ([] ++ pa) ++ pv, ⟨[] ++ pa, pv, trodAll_append (hargs _ (fun _ _ => rfl)) (hres _ _ _), hvars _ (fun _ _ => rfl), rfl, ?_, ?_⟩, ?_⟩
    · intro b off hp
      have hin : MemPlace.cell b off ∈ before := by rw [hps]; simpa using hp
      rw [hb.frozen (hlt _ hin)]
      exact hz b off hin
    · intro ha
      have := hn ha
      rw [hps] at this
      simpa using this
    · intro p hp _
      rw [hps]
      simpa using hp
end

theorem trodAll_kept {H : Type} {enc : TypeId × Value → H} {P : Program} (hl : laidOutB P = true) {W W' : World} (hb : Below W.heap.size W W') (sp : Nat → Bool) :
    ∀ (ts : List TypeId) (vs : List Value) (ds : List (DataW H)) (ps : List MemPlace), (∀ t, t ∈ ts → P.readableRec t = true ∧ t < P.types.size) →
      DataW.TrodAll enc P W 0 (fun _ => true) true ts vs ds ps → (∀ p, p ∈ ps → p.block < W.heap.size) → (∀ p, p ∈ ps → sp p.block = true) → DataW.TrodAll enc P W' 0 sp true ts vs ds ps
  | [], [], [], _, _, h, _, _ => h
  | t :: ts, v :: vs, d :: ds, ps, hr, h, hlt, hsp => by
    obtain ⟨p, q, h1, h2, rfl⟩ := h
    refine ⟨p, q, ?_, ?_, rfl⟩
    · exact WideElems.Trod_stays hl (hr t (by simp)).1 (hr t (by simp)).2 h1 (fun x hx => hb.same (hlt x (by simp [hx]))) (fun x hx => hsp x (by simp [hx]))
    · exact trodAll_kept hl hb sp ts vs ds q (fun u hu => hr u (by simp [hu])) h2 (fun x hx => hlt x (by simp [hx])) (fun x hx => hsp x (by simp [hx]))
  | [], [], _ :: _, _, _, h, _, _ => h.elim
  | [], _ :: _, _, _, _, h, _, _ => h.elim
  | _ :: _, [], _, _, _, h, _, _ => h.elim
  | _ :: _, _ :: _, [], _, _, h, _, _ => h.elim


set_option maxRecDepth 100000 in
theorem law_post {H : Type} {enc : TypeId × Value → H} {f : Func} {s : ChangeSpec} {W W' : World} {args : Array Value} {ds gs : List (DataW H)} {before : List MemPlace}
    (hW : DataW.Whole enc Try.prog f.params.toList s.vars false W args.toList ds gs before) (hb : Below W.heap.size W W') (hv0 : s.vars = []) (hrt : f.resultTypes = #[4])
    (hrd : ∀ t, t ∈ f.params.toList → Try.prog.readableRec t = true ∧ t < Try.prog.types.size)
    (hr : (s.fn H (ds ++ gs)).results = [.lit (.bool true)]) (ha : (s.fn H (ds ++ gs)).args = ds) (hvv : (s.fn H (ds ++ gs)).vars = []) :
    s.post enc Try.prog f false true false false W args (.bool true) W' := by
  have hW' := hW
  obtain ⟨p, q, hA, hV, rfl, _, _⟩ := hW
  rw [hv0] at hV
  obtain ⟨_, rfl⟩ := trodVars_none hV
  refine post_below (pa := p) (pv := []) hW' ?_ ?_ ?_ rfl hb ?_
  · intro b sp hd
    rw [hr, hrt]
    exact trodAll_mk1 (shut_bool Try.underlying4 _)
  · intro sp hsp
    rw [ha]
    exact trodAll_kept laidOut hb sp _ _ _ _ hrd hA (fun x hx => hW'.lt x (by simp [hx])) (fun x hx => hsp x (by simp [hx]))
  · intro sp hsp
    rw [hvv, hv0]
    rfl
  · exact ok_one hrt rfl (okWide_bool_mk Try.underlying4 _)

end Go.Proofs.Ytcdapnhcgbkikaa
