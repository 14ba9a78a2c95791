/- Maps as sets of pairs (pure): what Update, Delete, Lookup and HasKey make of the pairs. -/
import Derived.Test.YtaambeficfiacaaGreatFmD
namespace Go.Proofs.YtaambeficfiacaaGreat
open VM

/-- the pairs of a map -/
def prs (m : ByteArray) : List (ByteArray × ByteArray) := (mkeys m).zip (mvals m)
theorem zip_fs : ∀ l : List (ByteArray × ByteArray), (l.map Prod.fst).zip (l.map Prod.snd) = l
  | [] => rfl
  | (a, b) :: l => by
    show (a, b) :: (l.map Prod.fst).zip (l.map Prod.snd) = _
    rw [zip_fs l]
theorem fst_prs (m : ByteArray) : (prs m).map Prod.fst = mkeys m := List.map_fst_zip (by rw [mlen]; exact Nat.le_refl _)
theorem key_prs {m x : ByteArray} : x ∈ mkeys m ↔ ∃ y, (x, y) ∈ prs m :=
  ⟨fun h => zip_val (mlen m).symm h, fun ⟨_, h⟩ => (List.of_mem_zip h).1⟩
theorem map_self {m : ByteArray} (h : isK 6 m = true) : mapM (mkeys m) (mvals m) = m := by
  obtain ⟨h1, h2, h3⟩ := pt_map h
  rw [mapM_asc6 (show Asc (mkeys m) from h1) (mlen m).symm (all32 fun s q => pt_val m s ((ev_sub _).subset q)) (all32 fun s q => pt_val m s ((od_sub _).subset q))]
  show mkM 6 (il (evB (pt m)) (odB (pt m))) = m
  rw [il_ev h2, h3]
theorem map_ext {m n : ByteArray} (hm : isK 6 m = true) (hn : isK 6 n = true) (h : ∀ p, p ∈ prs m ↔ p ∈ prs n) : m = n := by
  rw [← map_self hm, ← map_self hn]
  exact mapM_same (asc_nodup (pt_map hm).1) (asc_nodup (pt_map hn).1) (mlen m).symm (mlen n).symm h
theorem tot_bound {c : Nat} : ∀ {l : List ByteArray}, (∀ s ∈ l, s.size ≤ c) → totB l ≤ l.length * c
  | [], _ => by simp [totB]
  | s :: l, h => by
    have h1 := h s (by simp)
    have h2 := tot_bound (c := c) (l := l) fun x hx => h x (List.mem_cons_of_mem _ hx)
    have : totB (s :: l) = s.size + totB l := by unfold totB; simp
    rw [this, List.length_cons, Nat.add_mul]
    omega
/-- a map of few short pairs is made -/
theorem made_map {a b : List ByteArray} (hN : a.Nodup) (hl : a.length = b.length) (h1 : ∀ s ∈ a, valB 31 s = true ∧ s.size ≤ 9) (h2 : ∀ s ∈ b, valB 31 s = true ∧ s.size ≤ 9) (h8 : a.length ≤ 8) :
    mapM a b ≠ ⟨#[]⟩ ∧ isK 6 (mapM a b) = true ∧ ∀ p, p ∈ prs (mapM a b) ↔ p ∈ a.zip b := by
  have hex : ∀ x, ∃ y, x ∈ a → (x, y) ∈ a.zip b := fun x => by
    by_cases q : x ∈ a
    · obtain ⟨y, hy⟩ := zip_val hl q; exact ⟨y, fun _ => hy⟩
    · exact ⟨⟨#[]⟩, fun h => absurd h q⟩
  let f : ByteArray → ByteArray := fun x => Classical.choose (hex x)
  have hf : ∀ x, x ∈ a → (x, f x) ∈ a.zip b := fun x => Classical.choose_spec (hex x)
  have huq : ∀ x y, (x, y) ∈ a.zip b → y = f x := fun x y h => by
    have e1 := inn_mem hN h
    have e2 := inn_mem hN (hf x (List.of_mem_zip h).1)
    rw [e1] at e2
    injection e2 with _ e3
    injection e3
  have hs := (sortM_nodup (l := a)).2 hN
  have hm : ∀ p, p ∈ (sortM a).zip ((sortM a).map f) ↔ p ∈ a.zip b := fun p => by
    have : (sortM a).zip ((sortM a).map f) = (sortM a).map fun x => (x, f x) := by
      generalize sortM a = l
      induction l with
      | nil => rfl
      | cons x l ih => show (x, f x) :: l.zip (l.map f) = _; rw [ih]; rfl
    rw [this, List.mem_map]
    constructor
    · rintro ⟨x, hx, rfl⟩; exact hf x (sortM_mem.1 hx)
    · intro h
      obtain ⟨x, y⟩ := p
      exact ⟨x, sortM_mem.2 (List.of_mem_zip h).1, by rw [huq x y h]⟩
  have e : mapM a b = mapM (sortM a) ((sortM a).map f) := mapM_same hN (asc_nodup (sortM_asc a)) hl (by rw [List.length_map]) fun p => (hm p).symm
  have g1 : ∀ s ∈ sortM a, valB 31 s = true ∧ s.size ≤ 9 := fun s q => h1 s (sortM_mem.1 q)
  have g2 : ∀ s ∈ (sortM a).map f, valB 31 s = true ∧ s.size ≤ 9 := fun s q => by
    obtain ⟨x, hx, rfl⟩ := List.mem_map.1 q
    exact h2 _ (List.of_mem_zip (hf x (sortM_mem.1 hx))).2
  have ht := tot_bound (c := 9) (l := il (sortM a) ((sortM a).map f)) fun s q => (il_mem q).elim (fun q => (g1 s q).2) (fun q => (g2 s q).2)
  have hlen : (il (sortM a) ((sortM a).map f)).length = 2 * (sortM a).length := by
    have q := ev_il (a := sortM a) (b := (sortM a).map f) (by rw [List.length_map])
    have := ev_len q.2.2
    rw [q.1] at this
    omega
  obtain ⟨m1, m2, m3, m4⟩ := map_ok (sortM_asc a) (by rw [List.length_map]) (fun s q => (g1 s q).1) (fun s q => (g2 s q).1) (by rw [hlen, hs] at ht; omega)
  rw [← e] at m1 m2 m3 m4
  refine ⟨m1, m2, fun p => ?_⟩
  unfold prs
  rw [m3, m4]
  exact hm p
/-- the pairs without a key -/
theorem del_prs {m : ByteArray} (k : ByteArray) (hm : isK 6 m = true) : ∃ K V : List ByteArray, delK (mkeys m) k = K ∧ delV (mkeys m) (mvals m) k = V ∧ K.length = V.length ∧ Asc K ∧ k ∉ K ∧ mapM K V ≠ ⟨#[]⟩ ∧ isK 6 (mapM K V) = true ∧ prs (mapM K V) = K.zip V ∧ (∀ p, p ∈ K.zip V ↔ p ∈ prs m ∧ p.1 ≠ k) ∧
    (∀ v, (updK (mkeys m) k).length = K.length + 1 ∧ mapM (updK (mkeys m) k) (updV (mkeys m) (mvals m) k v) = mapM (K ++ [k]) (V ++ [v])) := by
  obtain ⟨K, V, q1, q2, q3, q4, q5, q6, q7, q8, q9, q10⟩ := del_ok k hm
  refine ⟨K, V, q1, q2, q3, q4, q5, q6, q7, by unfold prs; rw [q8, q9], fun p => ?_, q10⟩
  have hd := dl_all (vs := mvals m) k (asc_nodup (pt_map hm).1) (mlen m).symm (Nat.le_refl _)
  change List.map Prod.fst (dl (mkeys m) (mvals m) k (mkeys m).length) = delK (mkeys m) k ∧ List.map Prod.snd (dl (mkeys m) (mvals m) k (mkeys m).length) = delV (mkeys m) (mvals m) k at hd
  rw [← q1, ← q2, ← hd.1, ← hd.2, zip_fs]
  unfold dl
  rw [List.take_of_length_le (by rw [List.length_zip]; omega), List.mem_filter]
  simp [prs]
/-- Update of a small map -/
theorem upd_small {m k v : ByteArray} (hm : isK 6 m = true) (hs : ∀ p ∈ prs m, (valB 31 p.1 = true ∧ p.1.size ≤ 9) ∧ (valB 31 p.2 = true ∧ p.2.size ≤ 9)) (h8 : (delK (mkeys m) k).length ≤ 7) (hk : valB 31 k = true ∧ k.size ≤ 9) (hv : valB 31 v = true ∧ v.size ≤ 9) :
    ∃ n, updM m k v = (n, 0) ∧ isK 6 n = true ∧ ∀ p, p ∈ prs n ↔ (p ∈ prs m ∧ p.1 ≠ k) ∨ p = (k, v) := by
  obtain ⟨K, V, q1, q2, q3, q4, q5, q6, q7, q8, q9, q10⟩ := del_prs k hm
  rw [q1] at h8
  have hKs : ∀ s ∈ K, valB 31 s = true ∧ s.size ≤ 9 := fun s h => by
    obtain ⟨y, hy⟩ := zip_val q3 h
    exact (hs _ ((q9 _).1 hy).1).1
  have hVs : ∀ s ∈ V, valB 31 s = true ∧ s.size ≤ 9 := fun s h => by
    obtain ⟨y, hy⟩ := zip_key q3 h
    exact (hs _ ((q9 _).1 hy).1).2
  obtain ⟨r1, r2, r3⟩ := made_map (a := K ++ [k]) (b := V ++ [v]) (List.nodup_append.2 ⟨asc_nodup q4, by simp, fun a ha b hb => by rw [List.mem_singleton.1 hb]; exact fun e => q5 (e ▸ ha)⟩)
    (by rw [List.length_append, List.length_append, q3]; rfl) (fun s h => by
      rcases List.mem_append.1 h with h | h
      · exact hKs s h
      · rw [List.mem_singleton.1 h]; exact hk) (fun s h => by
      rcases List.mem_append.1 h with h | h
      · exact hVs s h
      · rw [List.mem_singleton.1 h]; exact hv) (by rw [List.length_append]; simp; omega)
  refine ⟨mapM (K ++ [k]) (V ++ [v]), ?_, r2, fun p => ?_⟩
  · have hok : okM m [k, v] = true := by unfold okM; simp [hm, valB_le (show 31 ≤ 32 by decide) hk.1, valB_le (show 31 ≤ 32 by decide) hv.1]
    unfold updM
    rw [if_pos hok]
    unfold pairM
    rw [(q10 v).1, (q10 v).2, if_neg (by omega), if_neg r1]
  · rw [r3, List.zip_append q3]
    simp only [List.mem_append]
    rw [q9]
    constructor
    · rintro (h | h)
      · exact .inl h
      · exact .inr (by simpa using h)
    · rintro (h | h)
      · exact .inl h
      · exact .inr (by simp [h])
/-- Delete -/
theorem del_small {m k : ByteArray} (hm : isK 6 m = true) (hk : valB 32 k = true) (h8 : (delK (mkeys m) k).length ≤ 4096) :
    ∃ n, delM m k = (n, 0) ∧ isK 6 n = true ∧ ∀ p, p ∈ prs n ↔ p ∈ prs m ∧ p.1 ≠ k := by
  obtain ⟨K, V, q1, q2, q3, q4, q5, q6, q7, q8, q9, q10⟩ := del_prs k hm
  rw [q1] at h8
  refine ⟨mapM K V, ?_, q7, fun p => by rw [q8]; exact q9 p⟩
  have hok : okM m [k] = true := by unfold okM; simp [hm, hk]
  unfold delM
  rw [if_pos hok]
  unfold pairM
  rw [q1, q2, if_neg (by omega), if_neg q6]
theorem look_yes {m k y : ByteArray} (hm : isK 6 m = true) (hk : valB 32 k = true) (h : (k, y) ∈ prs m) : lookM m k = (y, 0) ∧ hasM m k = (true, 0) := by
  have hok : okM m [k] = true := by unfold okM; simp [hm, hk]
  have hN := asc_nodup (pt_map hm).1
  change (mkeys m).Nodup at hN
  rcases idxB_has (x := k) (ps := mkeys m) (i := 0) with ⟨g1, j, g2, g3, g4, g5⟩ | ⟨g1, g2⟩
  · rw [Nat.zero_add] at g2
    have hz : (k, (mvals m)[j]'(by rw [mlen]; exact g3)) ∈ prs m := by
      refine List.mem_iff_getElem.2 ⟨j, by unfold prs; rw [List.length_zip, mlen]; omega, ?_⟩
      unfold prs
      rw [List.getElem_zip]
      congr 1
      exact (List.getElem?_eq_some_iff.1 g4).2
    have e1 := inn_mem hN h
    have e2 := inn_mem hN hz
    rw [e1] at e2
    injection e2 with _ e3
    injection e3 with e4 _
    unfold lookM hasM
    rw [if_pos hok, if_pos hok, g1, g2, if_neg (by omega)]
    unfold getS
    rw [Int.toNat_natCast, List.getElem?_eq_getElem (by rw [mlen]; exact g3), e4]
    exact ⟨rfl, rfl⟩
  · exfalso
    have := hasB_iff.2 (key_prs.2 ⟨y, h⟩)
    rw [g1] at this
    cases this
theorem look_no {m k : ByteArray} (hm : isK 6 m = true) (hk : valB 32 k = true) (h : ∀ y, (k, y) ∉ prs m) : lookM m k = (⟨#[]⟩, 12) ∧ hasM m k = (false, 0) := by
  have hok : okM m [k] = true := by unfold okM; simp [hm, hk]
  rcases idxB_has (x := k) (ps := mkeys m) (i := 0) with ⟨g1, _⟩ | ⟨g1, g2⟩
  · obtain ⟨y, hy⟩ := key_prs.1 (hasB_iff.1 g1)
    exact absurd hy (h y)
  · unfold lookM hasM
    rw [if_pos hok, if_pos hok, g1, g2, if_pos (by decide)]
    exact ⟨rfl, rfl⟩

end Go.Proofs.YtaambeficfiacaaGreat
