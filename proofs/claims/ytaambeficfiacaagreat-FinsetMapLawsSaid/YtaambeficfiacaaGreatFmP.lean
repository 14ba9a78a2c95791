/- Maps as lists of pairs (pure): what is made of them depends on the pairs alone; a map without a key; Update by way of Delete. -/
import Derived.Test.YtaambeficfiacaaGreatFmC
namespace Go.Proofs.YtaambeficfiacaaGreat
open VM

def il : List ByteArray → List ByteArray → List ByteArray
  | a :: l, b :: r => a :: b :: il l r
  | _, _ => []
theorem ev_il : ∀ {a b : List ByteArray}, a.length = b.length → evB (il a b) = a ∧ odB (il a b) = b ∧ (il a b).length % 2 = 0
  | [], [], _ => ⟨rfl, rfl, rfl⟩
  | [], _ :: _, h => by simp at h
  | _ :: _, [], h => by simp at h
  | x :: a, y :: b, h => by
    obtain ⟨h1, h2, h3⟩ := ev_il (a := a) (b := b) (by simpa using h)
    refine ⟨?_, ?_, ?_⟩
    · show x :: evB (il a b) = _; rw [h1]
    · show y :: odB (il a b) = _; rw [h2]
    · show ((il a b).length + 1 + 1) % 2 = 0; omega
theorem il_ev : ∀ {l : List ByteArray}, l.length % 2 = 0 → il (evB l) (odB l) = l
  | [], _ => rfl
  | [_], h => by simp at h
  | a :: b :: l, h => by
    show a :: b :: il (evB l) (odB l) = _
    rw [il_ev (l := l) (by simp at h; omega)]
theorem il_mem : ∀ {a b : List ByteArray} {x : ByteArray}, x ∈ il a b → x ∈ a ∨ x ∈ b
  | [], _, _, h => by cases h
  | _ :: _, [], _, h => by cases h
  | u :: a, v :: b, x, h => by
    have h' : x ∈ u :: v :: il a b := h
    rcases List.mem_cons.1 h' with h1 | h1
    · exact .inl (by simp [h1])
    · rcases List.mem_cons.1 h1 with h2 | h2
      · exact .inr (by simp [h2])
      · exact (il_mem h2).imp (List.mem_cons_of_mem _) (List.mem_cons_of_mem _)
theorem il_app : ∀ {a b : List ByteArray} (c d : List ByteArray), a.length = b.length → il (a ++ c) (b ++ d) = il a b ++ il c d
  | [], [], _, _, _ => rfl
  | [], _ :: _, _, _, h => by simp at h
  | _ :: _, [], _, _, h => by simp at h
  | x :: a, y :: b, c, d, h => by
    show x :: y :: il (a ++ c) (b ++ d) = x :: y :: (il a b ++ il c d)
    rw [il_app c d (by simpa using h)]
theorem inn_not {x : ByteArray} : ∀ {ks vs : List ByteArray}, x ∉ ks → inn x (ks.zip vs) = []
  | [], _, _ => rfl
  | _ :: _, [], _ => rfl
  | k :: ks, v :: vs, h => by
    have h1 : ¬ k = x := fun e => h (by simp [e])
    have ih := inn_not (x := x) (ks := ks) (vs := vs) (fun q => h (List.mem_cons_of_mem _ q))
    unfold inn at ih ⊢
    rw [List.zip_cons_cons, List.filter_cons_of_neg (by simpa using h1)]
    exact ih
theorem inn_mem : ∀ {ks vs : List ByteArray} {x y : ByteArray}, ks.Nodup → (x, y) ∈ ks.zip vs → inn x (ks.zip vs) = [x, y]
  | [], _, _, _, _, h => by cases h
  | _ :: _, [], _, _, _, h => by cases h
  | k :: ks, v :: vs, x, y, hn, h => by
    rw [List.zip_cons_cons] at h
    rcases List.mem_cons.1 h with h1 | h1
    · injection h1 with e1 e2
      subst e1 e2
      have ih := inn_not (x := x) (ks := ks) (vs := vs) (List.nodup_cons.1 hn).1
      unfold inn at ih ⊢
      rw [List.zip_cons_cons, List.filter_cons_of_pos (by simp), List.flatMap_cons, ih]
      rfl
    · have hk : ¬ k = x := fun e => (List.nodup_cons.1 hn).1 (by rw [e]; exact (List.of_mem_zip h1).1)
      have ih := inn_mem (List.nodup_cons.1 hn).2 h1
      unfold inn at ih ⊢
      rw [List.zip_cons_cons, List.filter_cons_of_neg (by simpa using hk)]
      exact ih
theorem flat_ext {f g : ByteArray → List ByteArray} : ∀ {l : List ByteArray}, (∀ x ∈ l, f x = g x) → l.flatMap f = l.flatMap g
  | [], _ => rfl
  | x :: l, h => by rw [List.flatMap_cons, List.flatMap_cons, h x (by simp), flat_ext fun y hy => h y (List.mem_cons_of_mem _ hy)]
theorem zip_val {ks vs : List ByteArray} (hl : ks.length = vs.length) {x : ByteArray} (h : x ∈ ks) : ∃ y, (x, y) ∈ ks.zip vs := by
  obtain ⟨i, hi, rfl⟩ := List.mem_iff_getElem.1 h
  exact ⟨vs[i]'(by omega), List.mem_iff_getElem.2 ⟨i, by rw [List.length_zip]; omega, by rw [List.getElem_zip]⟩⟩
theorem zip_key {ks vs : List ByteArray} (hl : ks.length = vs.length) {y : ByteArray} (h : y ∈ vs) : ∃ x, (x, y) ∈ ks.zip vs := by
  obtain ⟨i, hi, rfl⟩ := List.mem_iff_getElem.1 h
  exact ⟨ks[i]'(by omega), List.mem_iff_getElem.2 ⟨i, by rw [List.length_zip]; omega, by rw [List.getElem_zip]⟩⟩
/-- a map depends on the pairs alone -/
theorem mapM_same {ks vs a b : List ByteArray} (h1 : ks.Nodup) (h2 : a.Nodup) (h3 : ks.length = vs.length) (h4 : a.length = b.length) (h : ∀ p, p ∈ ks.zip vs ↔ p ∈ a.zip b) : mapM ks vs = mapM a b := by
  have hk : ∀ x, x ∈ ks ↔ x ∈ a := fun x => by
    constructor
    · intro q; obtain ⟨y, hy⟩ := zip_val h3 q; exact (List.of_mem_zip ((h _).1 hy)).1
    · intro q; obtain ⟨y, hy⟩ := zip_val h4 q; exact (List.of_mem_zip ((h _).2 hy)).1
  have hv : ∀ x, x ∈ vs ↔ x ∈ b := fun x => by
    constructor
    · intro q; obtain ⟨y, hy⟩ := zip_key h3 q; exact (List.of_mem_zip ((h _).1 hy)).2
    · intro q; obtain ⟨y, hy⟩ := zip_key h4 q; exact (List.of_mem_zip ((h _).2 hy)).2
  have hs := sortM_congr hk
  have e1 : ks.all (valB 32) = a.all (valB 32) := by
    rw [Bool.eq_iff_iff, List.all_eq_true, List.all_eq_true]
    exact ⟨fun q x hx => q x ((hk x).2 hx), fun q x hx => q x ((hk x).1 hx)⟩
  have e2 : vs.all (valB 32) = b.all (valB 32) := by
    rw [Bool.eq_iff_iff, List.all_eq_true, List.all_eq_true]
    exact ⟨fun q x hx => q x ((hv x).2 hx), fun q x hx => q x ((hv x).1 hx)⟩
  have e3 : mpL (sortM ks) (ks.zip vs) = mpL (sortM a) (a.zip b) := by
    unfold mpL
    rw [← hs]
    refine flat_ext fun x hx => ?_
    obtain ⟨y, hy⟩ := zip_val h3 (sortM_mem.1 hx)
    rw [inn_mem h1 hy, inn_mem h2 ((h _).1 hy)]
  unfold mapM
  rw [e1, e2, e3]
  rw [← sortM_nodup] at h1 h2
  by_cases q : a.all (valB 32) = true ∧ b.all (valB 32) = true
  · rw [if_pos ⟨h3, q.1, q.2, h1⟩, if_pos ⟨h4, q.1, q.2, h2⟩]
  · rw [if_neg (fun r => q ⟨r.2.1, r.2.2.1⟩), if_neg (fun r => q ⟨r.2.1, r.2.2.1⟩)]
theorem mpL_il : ∀ {ks vs : List ByteArray}, ks.Nodup → ks.length = vs.length → mpL ks (ks.zip vs) = il ks vs := by
  intro ks vs hn hl
  suffices H : ∀ (a b : List ByteArray), a.length = b.length → (∀ p ∈ a.zip b, p ∈ ks.zip vs) → mpL a (ks.zip vs) = il a b from H ks vs hl fun _ h => h
  intro a
  induction a with
  | nil => intro b _ _; rfl
  | cons x a ih =>
    intro b hl hp
    cases b with
    | nil => simp at hl
    | cons y b =>
      show inn x (ks.zip vs) ++ mpL a (ks.zip vs) = x :: y :: il a b
      rw [inn_mem hn (hp (x, y) (by simp)), ih b (by simpa using hl) fun p h => hp p (by rw [List.zip_cons_cons]; exact List.mem_cons_of_mem _ h)]
      rfl
theorem mapM_asc6 {ks vs : List ByteArray} (h : Asc ks) (hl : ks.length = vs.length) (h1 : ks.all (valB 32) = true) (h2 : vs.all (valB 32) = true) : mapM ks vs = mkM 6 (il ks vs) := by
  unfold mapM
  rw [if_pos ⟨hl, h1, h2, by rw [sortM_self h]⟩, sortM_self h, mpL_il (asc_nodup h) hl]
theorem all32 {l : List ByteArray} (h : ∀ s ∈ l, valB 31 s = true) : l.all (valB 32) = true := List.all_eq_true.2 fun s q => valB_le (by decide) (h s q)
/-- pairs of valid parts, the keys ascending, short enough: a map -/
theorem map_ok {ks vs : List ByteArray} (h : Asc ks) (hl : ks.length = vs.length) (h1 : ∀ s ∈ ks, valB 31 s = true) (h2 : ∀ s ∈ vs, valB 31 s = true) (hz : 3 + totB (il ks vs) ≤ 131072) :
    mapM ks vs ≠ ⟨#[]⟩ ∧ isK 6 (mapM ks vs) = true ∧ mkeys (mapM ks vs) = ks ∧ mvals (mapM ks vs) = vs := by
  have hs : ∀ s ∈ il ks vs, valB 31 s = true := fun s q => (il_mem q).elim (h1 s) (h2 s)
  obtain ⟨e1, e2, e3⟩ := ev_il hl
  have hp : parted (ord 31) 6 ((il ks vs).map treeB) = true := by
    unfold parted ascOK
    rw [headL_ne (by decide) (by decide) (by decide), ev_tree e3, e1]
    unfold countOK
    rw [List.length_map]
    simp [e3, asc_tree (d := 31) (by omega) h1 h]
  have h4 := enc_comp_val (d := 31) (Nat.le_refl _) hs (k := 6) (by decide) hp hz
  have e : mapM ks vs = encB 6 (il ks vs) := by
    rw [mapM_asc6 h hl (all32 h1) (all32 h2), mkM_val (fun s q => valB_le (by omega) (hs s q)), if_pos h4.1]
  have hne : mapM ks vs ≠ ⟨#[]⟩ := by
    rw [e]
    intro q
    have := congrArg ByteArray.size q
    rw [encB_size] at this
    have : 3 + totB (il ks vs) = 0 := this
    omega
  have hm : mapM ks vs = mkM 6 (il ks vs) := mapM_asc6 h hl (all32 h1) (all32 h2)
  have hmd := made (k := 6) (by decide) (ps := il ks vs) (by rw [← hm]; exact hne)
  rw [← hm] at hmd
  refine ⟨hne, hmd.1, ?_, ?_⟩
  · unfold mkeys; rw [hmd.2.1, e1]
  · unfold mvals; rw [hmd.2.1, e2]
theorem cut {l : List ByteArray} {j : Nat} {x : ByteArray} (h : l[j]? = some x) : l = l.take j ++ x :: l.drop (j + 1) := by
  have hj := (List.getElem?_eq_some_iff.1 h)
  obtain ⟨hj, he⟩ := hj
  rw [← he, ← List.drop_eq_getElem_cons hj, List.take_append_drop]
/-- a map without a key -/
theorem del_ok {m : ByteArray} (k : ByteArray) (hm : isK 6 m = true) : ∃ K V : List ByteArray, delK (mkeys m) k = K ∧ delV (mkeys m) (mvals m) k = V ∧ K.length = V.length ∧ Asc K ∧ k ∉ K ∧ mapM K V ≠ ⟨#[]⟩ ∧ isK 6 (mapM K V) = true ∧ mkeys (mapM K V) = K ∧ mvals (mapM K V) = V ∧
    (∀ v, (updK (mkeys m) k).length = K.length + 1 ∧ mapM (updK (mkeys m) k) (updV (mkeys m) (mvals m) k v) = mapM (K ++ [k]) (V ++ [v])) := by
  obtain ⟨h1, h2, h3⟩ := pt_map hm
  have hA : Asc (mkeys m) := h1
  have hl : (mkeys m).length = (mvals m).length := (mlen m).symm
  have hpt : il (mkeys m) (mvals m) = pt m := il_ev h2
  have hz : 3 + totB (il (mkeys m) (mvals m)) ≤ 131072 := by
    obtain ⟨l, ht⟩ := isK_comp (by decide) hm
    rw [hpt]
    exact (pt_comp (isK_valid hm).1 ht).2.2.2.2
  have hk31 : ∀ s ∈ mkeys m, valB 31 s = true := fun s q => pt_val m s ((ev_sub _).subset q)
  have hv31 : ∀ s ∈ mvals m, valB 31 s = true := fun s q => pt_val m s ((od_sub _).subset q)
  generalize mkeys m = ks at *
  generalize mvals m = vs at *
  have hN := asc_nodup hA
  rcases idxB_has (x := k) (ps := ks) (i := 0) with ⟨g1, j, g2, g3, g4, g5⟩ | ⟨g1, g2⟩
  · rw [Nat.zero_add] at g2
    obtain ⟨u, hu⟩ : ∃ u, vs[j]? = some u := ⟨vs[j]'(by omega), List.getElem?_eq_getElem _⟩
    have c1 := cut g4
    have c2 := cut hu
    have lt : (ks.take j).length = (vs.take j).length := by rw [List.length_take, List.length_take, hl]
    have ld : (ks.drop (j + 1)).length = (vs.drop (j + 1)).length := by rw [List.length_drop, List.length_drop, hl]
    have eK : delK ks k = ks.take j ++ ks.drop (j + 1) := by unfold delK; rw [if_pos g1, g2, Int.toNat_natCast, List.eraseIdx_eq_take_drop_succ]
    have eV : delV ks vs k = vs.take j ++ vs.drop (j + 1) := by unfold delV; rw [if_pos g1, g2, Int.toNat_natCast, List.eraseIdx_eq_take_drop_succ]
    have eU : updK ks k = ks := by unfold updK; rw [if_pos g1]
    have eW : ∀ v, updV ks vs k v = vs.take j ++ v :: vs.drop (j + 1) := fun v => by
      unfold updV; rw [if_pos g1, g2, Int.toNat_natCast, List.set_eq_take_append_cons_drop, if_pos (by omega)]
    have hsub : (ks.take j ++ ks.drop (j + 1)).Sublist ks := by rw [← List.eraseIdx_eq_take_drop_succ]; exact List.eraseIdx_sublist _ _
    have hsubv : (vs.take j ++ vs.drop (j + 1)).Sublist vs := by rw [← List.eraseIdx_eq_take_drop_succ]; exact List.eraseIdx_sublist _ _
    have hlen : (ks.take j ++ ks.drop (j + 1)).length = (vs.take j ++ vs.drop (j + 1)).length := by rw [List.length_append, List.length_append, lt, ld]
    have hAK : Asc (ks.take j ++ ks.drop (j + 1)) := List.Pairwise.sublist hsub hA
    have hnk : k ∉ ks.take j ++ ks.drop (j + 1) := fun q => by
      rw [c1] at hN
      have hN2 := List.nodup_append.1 hN
      rcases List.mem_append.1 q with q | q
      · exact hN2.2.2 k q k (by simp) rfl
      · exact (List.nodup_cons.1 hN2.2.1).1 q
    have hzz : 3 + totB (il (ks.take j ++ ks.drop (j + 1)) (vs.take j ++ vs.drop (j + 1))) ≤ 131072 := by
      rw [il_app _ _ lt, totB_app]
      rw [c1, c2, il_app _ _ lt, totB_app] at hz
      have : totB (il (k :: ks.drop (j + 1)) (u :: vs.drop (j + 1))) = k.size + (u.size + totB (il (ks.drop (j + 1)) (vs.drop (j + 1)))) := by
        show totB (k :: u :: il _ _) = _
        unfold totB
        simp
      omega
    obtain ⟨m1, m2, m3, m4⟩ := map_ok hAK hlen (fun s q => hk31 s (hsub.subset q)) (fun s q => hv31 s (hsubv.subset q)) hzz
    refine ⟨_, _, eK, eV, hlen, hAK, hnk, m1, m2, m3, m4, fun v => ⟨?_, ?_⟩⟩
    · rw [eU, List.length_append, List.length_take, List.length_drop]; omega
    · rw [eU, eW]
      refine mapM_same hN (List.nodup_append.2 ⟨asc_nodup hAK, by simp, fun a ha b hb => ?_⟩) ?_ ?_ fun p => ?_
      · rw [List.mem_singleton.1 hb]; exact fun e => hnk (e ▸ ha)
      · rw [List.length_append, List.length_cons, List.length_take, List.length_drop]; omega
      · rw [List.length_append (bs := [k]), List.length_append (bs := [v]), hlen]; rfl
      · have z1 : ks.zip (vs.take j ++ v :: vs.drop (j + 1)) = (ks.take j).zip (vs.take j) ++ (k, v) :: (ks.drop (j + 1)).zip (vs.drop (j + 1)) := by
          conv => lhs; rw [c1]
          rw [List.zip_append lt, List.zip_cons_cons]
        have z2 : (ks.take j ++ ks.drop (j + 1) ++ [k]).zip (vs.take j ++ vs.drop (j + 1) ++ [v]) = ((ks.take j).zip (vs.take j) ++ (ks.drop (j + 1)).zip (vs.drop (j + 1))) ++ [(k, v)] := by
          rw [List.zip_append hlen, List.zip_append lt]; rfl
        rw [z1, z2]
        simp only [List.mem_append, List.mem_cons, List.not_mem_nil, or_false]
        constructor
        · rintro (q | q | q)
          · exact .inl (.inl q)
          · exact .inr q
          · exact .inl (.inr q)
        · rintro ((q | q) | q)
          · exact .inl q
          · exact .inr (.inr q)
          · exact .inr (.inl q)
  · have eK : delK ks k = ks := by unfold delK; rw [g1]; rfl
    have eV : delV ks vs k = vs := by unfold delV; rw [g1]; rfl
    have eU : updK ks k = ks ++ [k] := by unfold updK; rw [g1]; rfl
    have eW : ∀ v, updV ks vs k v = vs ++ [v] := fun v => by unfold updV; rw [g1]; rfl
    obtain ⟨m1, m2, m3, m4⟩ := map_ok hA hl hk31 hv31 hz
    refine ⟨ks, vs, eK, eV, hl, hA, fun q => ?_, m1, m2, m3, m4, fun v => ⟨?_, ?_⟩⟩
    · rw [← hasB_iff, g1] at q; cases q
    · rw [eU, List.length_append]; rfl
    · rw [eU, eW]

end Go.Proofs.YtaambeficfiacaaGreat
