/- The reference's build at trees that are well formed. Conditions: at most 8192 nodes and values, each of at most 2^48 bytes. -/
-- by tools/gen_pux.py
import Derived.Test.YtdifpemohdnolaaGreatPuK
namespace Go.Proofs.YtdifpemohdnolaaGreat
open Go.RowKit VM

/-! how many trees are still wanted behind the first nodes of a forest -/
def sumK : List Cd → Int
  | [] => 0
  | c :: l => c.2.2 - 1 + sumK l
theorem sumK_app : ∀ a b : List Cd, sumK (a ++ b) = sumK a + sumK b
  | [], b => by show sumK b = 0 + sumK b; omega
  | c :: a, b => by show c.2.2 - 1 + sumK (a ++ b) = c.2.2 - 1 + sumK a + sumK b; rw [sumK_app a b]; omega
theorem sumK_f : ∀ f : F, sumK f.fl = -(f.cnt : Int)
  | .nil => rfl
  | .node o n k r => by
    show (k.cnt : Int) - 1 + sumK (k.fl ++ r.fl) = -((r.cnt + 1 : Nat) : Int)
    rw [sumK_app, sumK_f k, sumK_f r]
    omega
theorem sumK_pos : ∀ (f : F) (j : Nat), j < f.fl.length → -(f.cnt : Int) < sumK (f.fl.take j)
  | .nil, j, h => by simp [F.fl] at h
  | .node o n k r, j, h => by
    cases j with
    | zero => show -((r.cnt + 1 : Nat) : Int) < 0; omega
    | succ j =>
      have e : (F.node o n k r).fl = (o, n, (k.cnt : Int)) :: (k.fl ++ r.fl) := rfl
      rw [e, List.take_succ_cons]
      rw [e, List.length_cons, List.length_append] at h
      show -((r.cnt + 1 : Nat) : Int) < (k.cnt : Int) - 1 + sumK ((k.fl ++ r.fl).take j)
      by_cases hj : j < k.fl.length
      · rw [List.take_append_of_le_length (by omega)]
        have := sumK_pos k j hj
        omega
      · rw [List.take_append, List.take_of_length_le (by omega), sumK_app, sumK_f k]
        by_cases hr : j - k.fl.length < r.fl.length
        · have := sumK_pos r _ hr
          omega
        · omega
theorem cnt_le : ∀ f : F, f.cnt ≤ f.fl.length
  | .nil => Nat.le_refl _
  | .node o n k r => by
    have := cnt_le r
    show r.cnt + 1 ≤ ((o, n, (k.cnt : Int)) :: (k.fl ++ r.fl)).length
    rw [List.length_cons, List.length_append]
    omega
theorem kids_le : ∀ (f : F), ∀ c ∈ f.fl, 0 ≤ c.2.2 ∧ c.2.2 ≤ (f.fl.length : Int)
  | .nil, c, h => by simp [F.fl] at h
  | .node o n k r, c, h => by
    have e : (F.node o n k r).fl = (o, n, (k.cnt : Int)) :: (k.fl ++ r.fl) := rfl
    rw [e] at h ⊢
    rw [List.length_cons, List.length_append]
    have hk := cnt_le k
    rcases List.mem_cons.1 h with rfl | h
    · show 0 ≤ (k.cnt : Int) ∧ (k.cnt : Int) ≤ _; omega
    · rcases List.mem_append.1 h with h | h
      · have := kids_le k c h; omega
      · have := kids_le r c h; omega
theorem sumK_step {l : List Cd} {j : Nat} {c : Cd} (h : l[j]? = some c) : sumK (l.take (j + 1)) = sumK (l.take j) + (c.2.2 - 1) := by
  rw [List.take_add_one, h, sumK_app]
  show _ + (c.2.2 - 1 + 0) = _
  omega
theorem sumK_up {N : Nat} : ∀ {l : List Cd}, (∀ c ∈ l, c.2.2 ≤ (N : Int)) → sumK l ≤ (l.length : Int) * (N : Int)
  | [], _ => by show (0 : Int) ≤ 0 * _; omega
  | c :: l, h => by
    have h1 := h c (List.mem_cons_self ..)
    have h2 := sumK_up fun x hx => h x (List.mem_cons_of_mem _ hx)
    show c.2.2 - 1 + sumK l ≤ ((l.length + 1 : Nat) : Int) * (N : Int)
    have e : ((l.length + 1 : Nat) : Int) * (N : Int) = (l.length : Int) * (N : Int) + (N : Int) := by rw [Int.natCast_add, Int.add_mul]; simp
    omega
set_option linter.unusedSimpArgs false in
set_option maxRecDepth 100000 in
set_option maxHeartbeats 6400000 in
theorem rend_t (o num : Int) (k : F) (p pre post : List Cd) (A : Option Addr) (n c : Nat) (w : World) (hp : p = pre ++ (F.node o num k .nil).fl ++ post) (hn : n = p.length) (hn8 : n ≤ 8192) (hA : InC w A (p.flatMap cdCells)) :
    Calls Tryz.prog 59 #[.slice A n c, .int .i64 (pre.length : Int)] w fun e w' => e = .returned (.int .i64 ((pre.length + (F.node o num k .nil).fl.length : Nat) : Int)) ∧ Below w.heap.size w w' := by
  obtain ⟨l, hl⟩ : ∃ l, l = (F.node o num k .nil).fl := ⟨_, rfl⟩
  have h1 : sumK l = -1 := by rw [hl, sumK_f]; rfl
  have h2 : ∀ j, j < l.length → -1 < sumK (l.take j) := fun j hj => by rw [hl] at hj ⊢; exact sumK_pos (.node o num k .nil) j hj
  have h3 : ∀ c ∈ l, 0 ≤ c.2.2 ∧ c.2.2 ≤ (l.length : Int) := fun c hc => by rw [hl] at hc ⊢; exact kids_le (.node o num k .nil) c hc
  have hlen : pre.length + l.length ≤ n := by rw [hn, hp, ← hl, List.length_append, List.length_append]; omega
  have hget : ∀ j, j < l.length → p[pre.length + j]? = l[j]? := fun j hj => by
    rw [hp, ← hl, List.append_assoc, List.getElem?_append_right (by omega), List.getElem?_append_left (by omega)]
    congr 1; omega
  rw [← hl]
  clear hp hl
  have hl8 : l.length ≤ 8192 := by omega
  have HUP : Hid (∀ j, j ≤ l.length → sumK (l.take j) ≤ 8192 * 8192) := Lib.hid fun j hj => by
    have q := sumK_up (N := 8192) (l := l.take j) fun c hc => by have := (h3 c (List.mem_of_mem_take hc)).2; omega
    have e : (l.take j).length ≤ 8192 := by rw [List.length_take]; omega
    have e2 : (((l.take j).length : Nat) : Int) * ((8192 : Nat) : Int) ≤ 8192 * 8192 := by
      have : (l.take j).length * 8192 ≤ 8192 * 8192 := Nat.mul_le_mul_right _ e
      omega
    omega
  have H1 := Lib.hid h1
  have H2 := Lib.hid h2
  have H3 := Lib.hid h3
  have HG := Lib.hid hget
  have HA := hide hA
  obtain ⟨i0, hi0⟩ : ∃ i0, i0 = pre.length := ⟨_, rfl⟩
  rw [← hi0] at hlen HG ⊢
  obtain ⟨L, hL⟩ : ∃ L, L = l.length := ⟨_, rfl⟩
  have HL := Lib.hid hL
  rw [← hL] at hlen hl8 ⊢
  clear h1 h2 h3 hget hA hn hi0 hL
  go_enter Tryz.func59, Tryz.ntmps59
  go_wp2_with fail
  go_loopw [1, 5] (fun iv lv wr => ∃ j : Nat, iv = .int .i64 ((i0 + j : Nat) : Int) ∧ j ≤ L ∧ lv = .int .i64 (1 + sumK (l.take j)) ∧ Hid (Below w.heap.size w wr)) (fun iv _ _ => i0 + L - (intOf iv).toNat)
  case atStart => exact ⟨0, by simp, by omega, by simp [sumK], Below.refl _ _⟩
  case round =>
    obtain ⟨j, rfl, hj, rfl, hB⟩ := hrel
    have HUPj := HUP.out j (by have := HL.out; omega)
    by_cases hlt : j < L
    · obtain ⟨t, ht⟩ : ∃ t, l[j]? = some t := ⟨_, List.getElem?_eq_getElem (by have := HL.out; omega)⟩
      have hp2 := HG.out j (by have := HL.out; omega)
      rw [ht] at hp2
      have hst := sumK_step ht
      have hpos := H2.out j (by have := HL.out; omega)
      have hk := H3.out t (List.mem_of_getElem? ht)
      rw [← HL.out] at hk
      obtain ⟨b, off, hAe, hb, x0, x1, x2⟩ := cd_at ((unhide HA).below hB.out) hp2
      subst hAe
      obtain ⟨ok, num2, kids⟩ := t
      dsimp only at x0 x1 x2 hst hk
      have HST := Lib.hid hst
      obtain ⟨q, hq⟩ : ∃ q, q = sumK (l.take j) := ⟨_, rfl⟩
      rw [← hq] at HST hpos HUPj ⊢
      obtain ⟨ij, hij⟩ : ∃ ij, ij = i0 + j := ⟨_, rfl⟩
      have hijn : ij < n := by omega
      rw [← hij] at x0 x1 x2 ⊢
      have HIJ := Lib.hid hij
      have g1 : ¬ kids < 0 := by omega
      have g2 : ¬ (n : Int) < kids := by omega
      have g3 : (0 : Int) < 1 + q := by omega
      have w1 : IntKind.i64.wrap (kids - 1) = kids - 1 := IntWalk.i64_in _ (by omega)
      have w2 : IntKind.i64.wrap (1 + q + (kids - 1)) = 1 + (q + (kids - 1)) := by rw [IntWalk.i64_in _ (by omega)]; omega
      have w3 : IntKind.i64.wrap ((ij : Int) + 1) = ((ij + 1 : Nat) : Int) := by rw [IntWalk.i64_in _ (by omega)]; simp
      clear ht hp2 hst hq hij hk
      go_wp2_with fail
      go_roundw
      case rel => exact ⟨j + 1, by rw [HIJ.out]; go_num, by omega, by rw [HST.out], hB⟩
      case measure => simp [intOf]; have := HIJ.out; omega
    · obtain rfl : j = L := by omega
      have hz : sumK (l.take j) = -1 := by rw [List.take_of_length_le (by have := HL.out; omega)]; exact H1.out
      rw [hz]
      go_wp2_with fail
      go_ret
      exact ⟨rfl, hB.out⟩

/-! the children of a node -/
def F.pos : F → Nat → List Nat
  | .nil, _ => []
  | .node _ _ k r, i => i :: r.pos (i + 1 + k.fl.length)
def F.cur : F → Nat → Nat → Nat
  | _, i, 0 => i
  | .nil, i, _ + 1 => i
  | .node _ _ k r, i, m + 1 => r.cur (i + 1 + k.fl.length) m
theorem F.pos_len : ∀ (f : F) (i : Nat), (f.pos i).length = f.cnt
  | .nil, _ => rfl
  | .node _ _ k r, i => by show (r.pos _).length + 1 = r.cnt + 1; rw [r.pos_len]
theorem cur_at : ∀ (f : F) (i m : Nat), m < f.cnt → ∃ (a : List Cd) (o n : Int) (k : F) (b : List Cd), f.fl = a ++ (F.node o n k .nil).fl ++ b ∧ f.cur i m = i + a.length ∧ f.cur i (m + 1) = i + a.length + (F.node o n k .nil).fl.length ∧ (f.pos i)[m]? = some (f.cur i m)
  | .nil, i, m, h => by cases h
  | .node o n k r, i, 0, h => by
    refine ⟨[], o, n, k, r.fl, by simp [F.fl], rfl, ?_, rfl⟩
    show (F.node o n k r).cur i (0 + 1) = _
    have : (F.node o n k r).cur i (0 + 1) = r.cur (i + 1 + k.fl.length) 0 := rfl
    rw [this]
    have e : ∀ (f : F) (i : Nat), f.cur i 0 = i := fun f i => by cases f <;> rfl
    rw [e]
    show _ = i + 0 + ((o, n, (k.cnt : Int)) :: (k.fl ++ [])).length
    rw [List.append_nil, List.length_cons]
    omega
  | .node o n k r, i, m + 1, h => by
    obtain ⟨a, o2, n2, k2, b, h1, h2, h3, h4⟩ := cur_at r (i + 1 + k.fl.length) m (by have : m + 1 < r.cnt + 1 := h; omega)
    refine ⟨(o, n, (k.cnt : Int)) :: (k.fl ++ a), o2, n2, k2, b, ?_, ?_, ?_, h4⟩
    · show (o, n, (k.cnt : Int)) :: (k.fl ++ r.fl) = _
      rw [h1]
      simp
    · show r.cur (i + 1 + k.fl.length) m = _
      rw [h2, List.length_cons, List.length_append]
      omega
    · show r.cur (i + 1 + k.fl.length) (m + 1) = _
      rw [h3, List.length_cons, List.length_append]
      omega
theorem cur_zero (f : F) (i : Nat) : f.cur i 0 = i := by cases f <;> rfl
def natV (x : Nat) : Value := .int .i64 (x : Int)
theorem kint_info : (Tryz.prog.info? 3).map (fun i => (i.zero, i.size, i.bytes)) = some (some (.int .i64 0), 1, 8) := by kernel_rfl
theorem one_nat (x : Nat) : ∀ u ∈ [natV x], u.oneCell' = true := by
  intro u hu
  simp at hu
  subst hu
  rfl
def KidPost (w : World) (l : List Nat) (e : Ending) (w' : World) : Prop :=
  ∃ (A : Option Addr) (m d : Nat), e = .returned (.slice A m d) ∧ m = l.length ∧ w'.ownsRow w.heap.size 3 1 (.slice A m d) m (l.map natV) ∧ Below w.heap.size w w'
set_option linter.unusedSimpArgs false in
set_option maxRecDepth 100000 in
set_option maxHeartbeats 6400000 in
theorem rkids_t (cd : Cd) (f : F) (p pre post : List Cd) (A : Option Addr) (n c : Nat) (w : World) (hp : p = pre ++ cd :: (f.fl ++ post)) (hc : cd.2.2 = (f.cnt : Int)) (hn : n = p.length) (hn8 : n ≤ 8192) (hA : InC w A (p.flatMap cdCells)) :
    Calls Tryz.prog 61 #[.slice A n c, .int .i64 (pre.length : Int)] w (KidPost w (f.pos (pre.length + 1))) := by
  obtain ⟨i0, hi0, hiz0, hiz1, hiz2⟩ := info_parts kint_info
  have hget : p[pre.length]? = some cd := by rw [hp]; exact pre_get
  have hlen : pre.length + 1 + f.fl.length ≤ n := by rw [hn, hp]; simp; omega
  have HEND : Hid (∀ (m : Nat), m < f.cnt → ∀ W, InC W A (p.flatMap cdCells) → Calls Tryz.prog 59 #[.slice A n c, .int .i64 (f.cur (pre.length + 1) m : Int)] W fun e w' => e = .returned (.int .i64 (f.cur (pre.length + 1) (m + 1) : Int)) ∧ Below W.heap.size W w') := Lib.hid fun m hm W hW => by
    obtain ⟨a, o, nn, k, b, h1, h2, h3, _⟩ := cur_at f (pre.length + 1) m hm
    have q := rend_t o nn k p (pre ++ [cd] ++ a) (b ++ post) A n c W (by rw [hp, h1]; simp) hn hn8 hW
    rw [show (pre ++ [cd] ++ a).length = pre.length + 1 + a.length by simp; omega] at q
    rw [h2, h3]
    exact q
  have HPOS : Hid (∀ m, m < f.cnt → (f.pos (pre.length + 1)).take (m + 1) = (f.pos (pre.length + 1)).take m ++ [f.cur (pre.length + 1) m] ∧ f.cur (pre.length + 1) m ≤ 8192) := Lib.hid fun m hm => by
    obtain ⟨a, o, nn, k, b, h1, h2, h3, h4⟩ := cur_at f (pre.length + 1) m hm
    refine ⟨by rw [List.take_add_one, h4]; rfl, ?_⟩
    have : f.fl.length = a.length + (F.node o nn k .nil).fl.length + b.length := by rw [h1, List.length_append, List.length_append]
    omega
  have HPL : Hid ((f.pos (pre.length + 1)).length = f.cnt) := Lib.hid (F.pos_len f _)
  have hcn : f.cnt ≤ 8192 := by have := cnt_le f; omega
  have HC0 : Hid (f.cur (pre.length + 1) 0 = pre.length + 1) := Lib.hid (cur_zero f _)
  have HA := hide hA
  have hpn : pre.length < n := by omega
  have HGET := Lib.hid hget
  obtain ⟨ok, num2, kids⟩ := cd
  dsimp only at hc
  subst hc
  clear hp hn hget hlen hA
  generalize pre.length = i1 at *
  generalize f.pos (i1 + 1) = l at *
  generalize hK : f.cnt = K at *
  obtain ⟨cu, hcu⟩ : ∃ cu : Nat → Nat, ∀ m, cu m = f.cur (i1 + 1) m := ⟨fun m => f.cur (i1 + 1) m, fun _ => rfl⟩
  simp only [← hcu] at HEND HPOS HC0
  have wi : IntKind.i64.wrap ((i1 : Int) + 1) = ((i1 + 1 : Nat) : Int) := by rw [IntWalk.i64_in _ (by omega)]; simp
  have HI1 : Hid (((i1 + 1 : Nat) : Int) = (cu 0 : Int)) := Lib.hid (by rw [HC0.out])
  clear hcu hK
  go_enter Tryz.func61, Tryz.ntmps61
  go_wp2_with fail
  go_loopw [5, 6, 7] (fun lv jv kv wr => ∃ k : Nat, kv = .int .i64 k ∧ k ≤ K ∧ Hid (jv = .int .i64 (cu k : Int)) ∧ Hid (wr.ownsRow w.heap.size 3 1 lv k ((l.take k).map natV)) ∧ Hid (Below w.heap.size w wr)) (fun _ _ kv _ => K - (intOf kv).toNat)
  case atStart => exact ⟨0, rfl, by omega, Lib.hid (by rw [← HI1.out]; go_num), World.ownsRow_nil _ _ _ _, Below.refl _ _⟩
  case round =>
    obtain ⟨k, rfl, hk, hjv, hO, hB⟩ := hrel
    obtain ⟨X, cx, rfl⟩ := owns_form hO.out
    obtain ⟨b, off, hAe, hb, x0, x1, x2⟩ := cd_at ((unhide HA).below hB.out) HGET.out
    subst hAe
    dsimp only at x0 x1 x2
    have hjv2 := hjv.out
    subst hjv2
    by_cases hlt : k < K
    · obtain ⟨hs1, hs2⟩ := HPOS.out k hlt
      have HS1 := Lib.hid hs1
      have HE := Lib.hid (HEND.out k hlt)
      generalize cu k = ck at *
      have hba : Below wr.heap.size wr (wr.alloc (.cells #[.int .i64 (ck : Int)] 3)) := (Below.refl _ _).alloc (Nat.le_refl _) _
      have HO2 := hide (owns_below hO.out hba)
      have HB2 := hide (hB.out.trans (hba.mono hB.out.size))
      have hsz : w.heap.size ≤ (wr.alloc (.cells #[.int .i64 (ck : Int)] 3)).heap.size := (unhide HB2).size
      clear hs1 hba hO hB hjv
      go_wp2_with (at_builtin; refine wpList_app _ rfl _ _ 25 rfl w.heap.size 3 i0 _ 1 8 Tryz.underlying25 hi0 hiz0 hiz1 hiz2 rfl (by decide) _ k _ rfl (unhide HO2) (some ⟨wr.heap.size, 0, none⟩) 1 1 [natV ck] rfl rfl (new_in wr 3 #[.int .i64 (ck : Int)]) (one_nat ck) (by unfold maxLen; omega) (by omega) hsz ?_; intro v5 w5 hown5 hgrow5 _)
      have HB5 := hide (below_app (unhide HB2) (unhide HO2) hgrow5)
      have HO5 : Hid (w5.ownsRow w.heap.size 3 1 v5 (k + 1) ((l.take (k + 1)).map natV)) := hide (by rw [HS1.out, List.map_append]; exact hown5)
      clear hown5 hgrow5 HO2 HB2 hsz
      go_wp2_with fail
      refine (HE.out _ ((unhide HA).below (unhide HB5))).mono ?_
      rintro e w6 ⟨rfl, hb6⟩
      have HB6 := hide ((unhide HB5).trans (hb6.mono (unhide HB5).size))
      have HO6 := hide (owns_below (unhide HO5) hb6)
      clear hb6 HO5 HB5 HE
      go_wp2_with fail
      go_roundw
      case rel => exact ⟨k + 1, by go_num, by omega, Lib.hid rfl, unhide HO6, unhide HB6⟩
      case measure => simp [intOf] <;> omega
    · obtain rfl : k = K := by omega
      have HF := hide (by have h := hO.out; rw [List.take_of_length_le (Nat.le_of_eq HPL.out)] at h; exact h)
      have HB2 := hide hB.out
      clear hO hB hjv
      go_wp2_with fail
      go_ret
      exact ⟨X, _, cx, rfl, HPL.out.symm, unhide HF, unhide HB2⟩

end Go.Proofs.YtdifpemohdnolaaGreat
namespace Go.Proofs.YtdifpemohdnolaaGreat
open Go.RowKit VM

def FormCon (e : Nat) : Prop := ∀ (o num : Int) (f : F) (p pre post : List Cd) (A : Option Addr) (n c : Nat) (D : Int) (w : World), (F.node o num f .nil).ok e = true → p = pre ++ (F.node o num f .nil).fl ++ post → n = p.length → n ≤ 8192 → 1 ≤ D → D + (e : Int) ≤ 65 → InC w A (p.flatMap cdCells) →
  Calls Tryz.prog 60 #[.slice A n c, .int .i64 (pre.length : Int), .int .i64 D] w fun e w' => e = .returned (.bool true) ∧ Below w.heap.size w w'
theorem kid_ok : ∀ (f : F) (m : Nat) {d i : Nat}, m < f.cnt → f.ok d = true → ∃ (a : List Cd) (o n : Int) (k : F) (b : List Cd), f.fl = a ++ (F.node o n k .nil).fl ++ b ∧ f.cur i m = i + a.length ∧ f.cur i (m + 1) = i + a.length + (F.node o n k .nil).fl.length ∧ (f.pos i)[m]? = some (f.cur i m) ∧ (F.node o n k .nil).ok d = true ∧ f.ops[m]? = some o
  | .nil, m, d, i, h, _ => by cases h
  | .node o n k r, 0, d, i, h, hk => by
    refine ⟨[], o, n, k, r.fl, by simp [F.fl], rfl, ?_, rfl, ?_, rfl⟩
    · have : (F.node o n k r).cur i (0 + 1) = r.cur (i + 1 + k.fl.length) 0 := rfl
      rw [this, cur_zero]
      show _ = i + 0 + ((o, n, (k.cnt : Int)) :: (k.fl ++ [])).length
      rw [List.append_nil, List.length_cons]
      omega
    · unfold F.ok at hk ⊢
      simp only [Bool.and_eq_true] at hk ⊢
      exact ⟨hk.1, rfl⟩
  | .node o n k r, m + 1, d, i, h, hk => by
    obtain ⟨e, rfl, h1, h2, h3, h4⟩ := F.ok_node hk
    obtain ⟨a, o2, n2, k2, b, g1, g2, g3, g4, g5, g6⟩ := kid_ok r m (i := i + 1 + k.fl.length) (by have : m + 1 < r.cnt + 1 := h; omega) h4
    refine ⟨(o, n, (k.cnt : Int)) :: (k.fl ++ a), o2, n2, k2, b, ?_, ?_, ?_, g4, g5, g6⟩
    · show (o, n, (k.cnt : Int)) :: (k.fl ++ r.fl) = _
      rw [g1]
      simp
    · show r.cur (i + 1 + k.fl.length) m = _
      rw [g2, List.length_cons, List.length_append]
      omega
    · show r.cur (i + 1 + k.fl.length) (m + 1) = _
      rw [g3, List.length_cons, List.length_append]
      omega
set_option linter.unusedSimpArgs false in
set_option maxRecDepth 100000 in
set_option maxHeartbeats 12800000 in
theorem form_up (e : Nat) (he : e ≤ 63) (ih : FormCon e) : FormCon (e + 1) := by
  intro o num f p pre post A n c D w hok hp hn hn8 hD1 hD2 hA
  obtain ⟨e', he', hp1, hc1, hk1, -⟩ := F.ok_node hok
  obtain rfl : e' = e := by omega
  have hp2 : p = pre ++ (o, num, (f.cnt : Int)) :: (f.fl ++ post) := by rw [hp]; simp [F.fl]
  have hget : p[pre.length]? = some (o, num, (f.cnt : Int)) := by rw [hp2]; exact pre_get
  have hpn : pre.length < n := by
    rw [hn, hp2, List.length_append, List.length_cons]
    omega
  have HKD := Lib.hid (fun W (h : InC W A (p.flatMap cdCells)) => rkids_t (o, num, (f.cnt : Int)) f p pre post A n c W hp2 rfl hn hn8 h)
  have HIH : Hid (∀ m, m < f.cnt → ∃ op2 n2 k2, (f.pos (pre.length + 1))[m]? = some (f.cur (pre.length + 1) m) ∧ f.cur (pre.length + 1) m < n ∧ p[f.cur (pre.length + 1) m]? = some (op2, n2, k2) ∧ f.ops[m]? = some op2 ∧
      ∀ W, InC W A (p.flatMap cdCells) → Calls Tryz.prog 60 #[.slice A n c, .int .i64 (f.cur (pre.length + 1) m : Int), .int .i64 (D + 1)] W fun e w' => e = .returned (.bool true) ∧ Below W.heap.size W w') := Lib.hid fun m hm => by
    obtain ⟨a, o2, nn, k, b, h1, h2, h3, h4, h5, h6⟩ := kid_ok f m (i := pre.length + 1) hm hk1
    have hpp : p = (pre ++ [(o, num, (f.cnt : Int))] ++ a) ++ (F.node o2 nn k .nil).fl ++ (b ++ post) := by rw [hp2, h1]; simp
    have hlen : (pre ++ [(o, num, (f.cnt : Int))] ++ a).length = pre.length + 1 + a.length := by simp; omega
    have hg : p[f.cur (pre.length + 1) m]? = some (o2, nn, (k.cnt : Int)) := by
      rw [h2, ← hlen, hpp, List.append_assoc (pre ++ [(o, num, (f.cnt : Int))] ++ a)]
      exact pre_get
    refine ⟨o2, nn, (k.cnt : Int), h4, ?_, hg, h6, fun W hW => ?_⟩
    · have := (List.getElem?_eq_some_iff.1 hg).1; omega
    · have q := ih o2 nn k p (pre ++ [(o, num, (f.cnt : Int))] ++ a) (b ++ post) A n c (D + 1) W h5 hpp hn hn8 (by omega) (by omega) hW
      rw [hlen, ← h2] at q
      exact q
  have HPL : Hid ((f.pos (pre.length + 1)).length = f.cnt) := Lib.hid (F.pos_len f _)
  have hfl : f.fl.length ≤ p.length := by
    rw [hp2, List.length_append, List.length_cons, List.length_append]
    omega
  have hcn : f.cnt ≤ 8192 := by
    have h1 := cnt_le f
    omega
  have HA := hide hA
  have HGET := Lib.hid hget
  have hDle : ¬ (64 < D) := by omega
  have wD : IntKind.i64.wrap (D + 1) = D + 1 := IntWalk.i64_in _ (by omega)
  have HC1 := Lib.hid hc1
  clear hp hp2 hn hn8 hA hget hk1 hok ih hc1 hfl
  generalize pre.length = i1 at *
  generalize f.pos (i1 + 1) = l at *
  generalize hK : f.cnt = K at *
  generalize f.ops = ops at *
  obtain ⟨cu, hcu⟩ : ∃ cu : Nat → Nat, ∀ m, cu m = f.cur (i1 + 1) m := ⟨fun m => f.cur (i1 + 1) m, fun _ => rfl⟩
  simp only [← hcu] at HIH
  clear hcu hK
  obtain ⟨b0, off, hAe, hb0, x0, x1, x2⟩ := cd_at (unhide HA) HGET.out
  subst hAe
  dsimp only at x0 x1 x2
  unfold permL at hp1
  simp only at hp1
  clear hb0
  rcases (by
    rcases ops11 o with h | h | h | h | h | h | h | h | h | h | h | h
    all_goals first
      | (subst h; simp; done)
      | (exfalso; repeat' split at hp1
         all_goals first | omega | (simp at hp1))
    : o = 30 ∨ o = 31 ∨ o = 32 ∨ o = 33 ∨ o = 34 ∨ o = 35 ∨ o = 36 ∨ o = 37 ∨ o = 38 ∨ o = 39 ∨ o = 40) with rfl | rfl | rfl | rfl | rfl | rfl | rfl | rfl | rfl | rfl | rfl
  · simp at hp1
    obtain ⟨rfl, hk0⟩ := hp1
    obtain rfl : K = 0 := by omega
    have hba : Below w.heap.size w (w.alloc (.cells #[.int .i64 30, .int .i64 0, .int .i64 0] 27)) := (Below.refl _ _).alloc (Nat.le_refl _) _
    have HB1 := hide hba
    have HX1 := hide (Blk.new w 27 #[.int .i64 30, .int .i64 0, .int .i64 0])
    have HA1 := hide ((unhide HA).below hba)
    have HKC := hide (HKD.out _ (unhide HA1))
    clear hba HKD HA
    go_enter Tryz.func60, Tryz.ntmps60
    go_wp2_with fail
    refine (unhide HKC).mono ?_
    rintro e w2 ⟨X, m, cx, rfl, hm, ho, hb2⟩
    obtain rfl : m = 0 := hm.trans HPL.out
    have HO2 := hide ho
    have HB2 := hide ((unhide HB1).trans (hb2.mono (unhide HB1).size))
    have HX2 := hide ((unhide HX1).below hb2 (unhide HX1).lt)
    have HA2 := hide ((unhide HA1).below hb2)
    clear hm ho hb2 HB1 HX1 HA1 HKC x0 x1 x2
    obtain ⟨bx, hbx⟩ : ∃ bx, bx = w.heap.size := ⟨_, rfl⟩
    rw [← hbx] at HX2 ⊢
    have HBXE := Lib.hid hbx
    clear hbx
    go_wp2_with fail
    go_loopw [10] (fun kv wr => ∃ k : Nat, kv = .int .i64 k ∧ k ≤ 0 ∧ Hid (Below w2.heap.size w2 wr)) (fun kv _ => 0 - (intOf kv).toNat)
    case atStart => exact ⟨0, rfl, by omega, Below.refl _ _⟩
    case round =>
      obtain ⟨k, rfl, hk, hB⟩ := hrel
      obtain rfl : k = 0 := by omega
      have HB4 := hide (hB.out)
      go_wp2_with fail
      go_ret
      exact ⟨rfl, (unhide HB2).trans ((unhide HB4).mono (unhide HB2).size)⟩
  · simp at hp1
    obtain ⟨rfl, hk0⟩ := hp1
    obtain rfl : K = 0 := by omega
    have hba : Below w.heap.size w (w.alloc (.cells #[.int .i64 31, .int .i64 0, .int .i64 0] 27)) := (Below.refl _ _).alloc (Nat.le_refl _) _
    have HB1 := hide hba
    have HX1 := hide (Blk.new w 27 #[.int .i64 31, .int .i64 0, .int .i64 0])
    have HA1 := hide ((unhide HA).below hba)
    have HKC := hide (HKD.out _ (unhide HA1))
    clear hba HKD HA
    go_enter Tryz.func60, Tryz.ntmps60
    go_wp2_with fail
    refine (unhide HKC).mono ?_
    rintro e w2 ⟨X, m, cx, rfl, hm, ho, hb2⟩
    obtain rfl : m = 0 := hm.trans HPL.out
    have HO2 := hide ho
    have HB2 := hide ((unhide HB1).trans (hb2.mono (unhide HB1).size))
    have HX2 := hide ((unhide HX1).below hb2 (unhide HX1).lt)
    have HA2 := hide ((unhide HA1).below hb2)
    clear hm ho hb2 HB1 HX1 HA1 HKC x0 x1 x2
    obtain ⟨bx, hbx⟩ : ∃ bx, bx = w.heap.size := ⟨_, rfl⟩
    rw [← hbx] at HX2 ⊢
    have HBXE := Lib.hid hbx
    clear hbx
    go_wp2_with fail
    go_loopw [10] (fun kv wr => ∃ k : Nat, kv = .int .i64 k ∧ k ≤ 0 ∧ Hid (Below w2.heap.size w2 wr)) (fun kv _ => 0 - (intOf kv).toNat)
    case atStart => exact ⟨0, rfl, by omega, Below.refl _ _⟩
    case round =>
      obtain ⟨k, rfl, hk, hB⟩ := hrel
      obtain rfl : k = 0 := by omega
      have HB4 := hide (hB.out)
      go_wp2_with fail
      go_ret
      exact ⟨rfl, (unhide HB2).trans ((unhide HB4).mono (unhide HB2).size)⟩
  · simp at hp1
    obtain rfl : K = 0 := by omega
    have hba : Below w.heap.size w (w.alloc (.cells #[.int .i64 32, .int .i64 num, .int .i64 0] 27)) := (Below.refl _ _).alloc (Nat.le_refl _) _
    have HB1 := hide hba
    have HX1 := hide (Blk.new w 27 #[.int .i64 32, .int .i64 num, .int .i64 0])
    have HA1 := hide ((unhide HA).below hba)
    have HKC := hide (HKD.out _ (unhide HA1))
    clear hba HKD HA
    go_enter Tryz.func60, Tryz.ntmps60
    go_wp2_with fail
    refine (unhide HKC).mono ?_
    rintro e w2 ⟨X, m, cx, rfl, hm, ho, hb2⟩
    obtain rfl : m = 0 := hm.trans HPL.out
    have HO2 := hide ho
    have HB2 := hide ((unhide HB1).trans (hb2.mono (unhide HB1).size))
    have HX2 := hide ((unhide HX1).below hb2 (unhide HX1).lt)
    have HA2 := hide ((unhide HA1).below hb2)
    clear hm ho hb2 HB1 HX1 HA1 HKC x0 x1 x2
    obtain ⟨bx, hbx⟩ : ∃ bx, bx = w.heap.size := ⟨_, rfl⟩
    rw [← hbx] at HX2 ⊢
    have HBXE := Lib.hid hbx
    clear hbx
    go_wp2_with fail
    go_loopw [10] (fun kv wr => ∃ k : Nat, kv = .int .i64 k ∧ k ≤ 0 ∧ Hid (Below w2.heap.size w2 wr)) (fun kv _ => 0 - (intOf kv).toNat)
    case atStart => exact ⟨0, rfl, by omega, Below.refl _ _⟩
    case round =>
      obtain ⟨k, rfl, hk, hB⟩ := hrel
      obtain rfl : k = 0 := by omega
      have HB4 := hide (hB.out)
      go_wp2_with fail
      go_ret
      exact ⟨rfl, (unhide HB2).trans ((unhide HB4).mono (unhide HB2).size)⟩
  · simp at hp1
    obtain ⟨hn01, hk0⟩ := hp1
    obtain rfl : K = 0 := by omega
    rcases hn01 with rfl | rfl
    · have hba : Below w.heap.size w (w.alloc (.cells #[.int .i64 33, .int .i64 0, .int .i64 0] 27)) := (Below.refl _ _).alloc (Nat.le_refl _) _
      have HB1 := hide hba
      have HX1 := hide (Blk.new w 27 #[.int .i64 33, .int .i64 0, .int .i64 0])
      have HA1 := hide ((unhide HA).below hba)
      have HKC := hide (HKD.out _ (unhide HA1))
      clear hba HKD HA
      go_enter Tryz.func60, Tryz.ntmps60
      go_wp2_with fail
      refine (unhide HKC).mono ?_
      rintro e w2 ⟨X, m, cx, rfl, hm, ho, hb2⟩
      obtain rfl : m = 0 := hm.trans HPL.out
      have HO2 := hide ho
      have HB2 := hide ((unhide HB1).trans (hb2.mono (unhide HB1).size))
      have HX2 := hide ((unhide HX1).below hb2 (unhide HX1).lt)
      have HA2 := hide ((unhide HA1).below hb2)
      clear hm ho hb2 HB1 HX1 HA1 HKC x0 x1 x2
      obtain ⟨bx, hbx⟩ : ∃ bx, bx = w.heap.size := ⟨_, rfl⟩
      rw [← hbx] at HX2 ⊢
      have HBXE := Lib.hid hbx
      clear hbx
      go_wp2_with fail
      go_loopw [10] (fun kv wr => ∃ k : Nat, kv = .int .i64 k ∧ k ≤ 0 ∧ Hid (Below w2.heap.size w2 wr)) (fun kv _ => 0 - (intOf kv).toNat)
      case atStart => exact ⟨0, rfl, by omega, Below.refl _ _⟩
      case round =>
        obtain ⟨k, rfl, hk, hB⟩ := hrel
        obtain rfl : k = 0 := by omega
        have HB4 := hide (hB.out)
        go_wp2_with fail
        go_ret
        exact ⟨rfl, (unhide HB2).trans ((unhide HB4).mono (unhide HB2).size)⟩
    · have hba : Below w.heap.size w (w.alloc (.cells #[.int .i64 33, .int .i64 1, .int .i64 0] 27)) := (Below.refl _ _).alloc (Nat.le_refl _) _
      have HB1 := hide hba
      have HX1 := hide (Blk.new w 27 #[.int .i64 33, .int .i64 1, .int .i64 0])
      have HA1 := hide ((unhide HA).below hba)
      have HKC := hide (HKD.out _ (unhide HA1))
      clear hba HKD HA
      go_enter Tryz.func60, Tryz.ntmps60
      go_wp2_with fail
      refine (unhide HKC).mono ?_
      rintro e w2 ⟨X, m, cx, rfl, hm, ho, hb2⟩
      obtain rfl : m = 0 := hm.trans HPL.out
      have HO2 := hide ho
      have HB2 := hide ((unhide HB1).trans (hb2.mono (unhide HB1).size))
      have HX2 := hide ((unhide HX1).below hb2 (unhide HX1).lt)
      have HA2 := hide ((unhide HA1).below hb2)
      clear hm ho hb2 HB1 HX1 HA1 HKC x0 x1 x2
      obtain ⟨bx, hbx⟩ : ∃ bx, bx = w.heap.size := ⟨_, rfl⟩
      rw [← hbx] at HX2 ⊢
      have HBXE := Lib.hid hbx
      clear hbx
      go_wp2_with fail
      go_loopw [10] (fun kv wr => ∃ k : Nat, kv = .int .i64 k ∧ k ≤ 0 ∧ Hid (Below w2.heap.size w2 wr)) (fun kv _ => 0 - (intOf kv).toNat)
      case atStart => exact ⟨0, rfl, by omega, Below.refl _ _⟩
      case round =>
        obtain ⟨k, rfl, hk, hB⟩ := hrel
        obtain rfl : k = 0 := by omega
        have HB4 := hide (hB.out)
        go_wp2_with fail
        go_ret
        exact ⟨rfl, (unhide HB2).trans ((unhide HB4).mono (unhide HB2).size)⟩
  · simp at hp1
    obtain ⟨rfl, hk2, hk8⟩ := hp1
    have hk2i : (2 : Int) ≤ (K : Int) := by omega
    have hk8i : (K : Int) ≤ 8 := by omega
    clear hk2 hk8
    have hba : Below w.heap.size w (w.alloc (.cells #[.int .i64 34, .int .i64 0, .int .i64 (K : Int)] 27)) := (Below.refl _ _).alloc (Nat.le_refl _) _
    have HB1 := hide hba
    have HX1 := hide (Blk.new w 27 #[.int .i64 34, .int .i64 0, .int .i64 (K : Int)])
    have HA1 := hide ((unhide HA).below hba)
    have HKC := hide (HKD.out _ (unhide HA1))
    clear hba HKD HA
    go_enter Tryz.func60, Tryz.ntmps60
    go_wp2_with fail
    refine (unhide HKC).mono ?_
    rintro e w2 ⟨X, m, cx, rfl, hm, ho, hb2⟩
    obtain rfl : K = m := (hm.trans HPL.out).symm
    have HO2 := hide ho
    have HB2 := hide ((unhide HB1).trans (hb2.mono (unhide HB1).size))
    have HX2 := hide ((unhide HX1).below hb2 (unhide HX1).lt)
    have HA2 := hide ((unhide HA1).below hb2)
    clear hm ho hb2 HB1 HX1 HA1 HKC x0 x1 x2
    obtain ⟨bx, hbx⟩ : ∃ bx, bx = w.heap.size := ⟨_, rfl⟩
    rw [← hbx] at HX2 ⊢
    have HBXE := Lib.hid hbx
    clear hbx
    go_wp2_with fail
    go_loopw [10] (fun kv wr => ∃ k : Nat, kv = .int .i64 k ∧ k ≤ K ∧ Hid (Below w2.heap.size w2 wr)) (fun kv _ => K - (intOf kv).toNat)
    case atStart => exact ⟨0, rfl, by omega, Below.refl _ _⟩
    case round =>
      obtain ⟨k, rfl, hk, hB⟩ := hrel
      by_cases hlt : k < K
      · obtain ⟨op2, n2, k2, h1, h2, h3, h4, h5⟩ := HIH.out k hlt
        obtain ⟨bq, oq, hXe, hbq, y0⟩ := at1s ((InC.own (unhide HO2)).below hB.out) (i := k) (u := natV (cu k)) (by rw [List.getElem?_map, h1]; rfl)
        have hcl0 := ((unhide HX2).below hB.out (unhide HX2).lt).cell 0
        have hcl1 := ((unhide HX2).below hB.out (unhide HX2).lt).cell 1
        have hcl2 := ((unhide HX2).below hB.out (unhide HX2).lt).cell 2
        change wr.cell? ⟨bx, 0, none⟩ = some (.int .i64 34) at hcl0
        change wr.cell? ⟨bx, 1, none⟩ = some (.int .i64 0) at hcl1
        change wr.cell? ⟨bx, 2, none⟩ = some (.int .i64 (K : Int)) at hcl2
        obtain ⟨ba, oa, hAe2, hb3, z0, z1, z2⟩ := cd_at ((unhide HA2).below hB.out) h3
        injection hAe2 with hAe3
        injection hAe3 with hA4 hA5
        subst hA4 hA5 hXe
        dsimp only at z0
        change wr.cell? ⟨bq, oq + k, none⟩ = some (.int .i64 (cu k : Int)) at y0
        have HC5 := Lib.hid h5
        have H4 := Lib.hid h4
        have HAr := hide ((unhide HA2).below hB.out)
        generalize cu k = ck at *
        clear h1 h3 h4 h5 hbq hb3 z1 z2
        go_wp2_with fail
        refine (HC5.out _ (unhide HAr)).mono ?_
        rintro e w3 ⟨rfl, hb3⟩
        have HB3 := hide (hB.out.trans (hb3.mono hB.out.size))
        clear hb3 hB
        go_wp2_with fail
        go_roundw
        case rel => exact ⟨k + 1, by go_num, by omega, unhide HB3⟩
        case measure => simp [intOf] <;> omega
      · obtain rfl : k = K := by omega
        have HB4 := hide (hB.out)
        go_wp2_with fail
        go_ret
        exact ⟨rfl, (unhide HB2).trans ((unhide HB4).mono (unhide HB2).size)⟩
  · simp at hp1
    subst hp1
    have hba : Below w.heap.size w (w.alloc (.cells #[.int .i64 35, .int .i64 0, .int .i64 (K : Int)] 27)) := (Below.refl _ _).alloc (Nat.le_refl _) _
    have HB1 := hide hba
    have HX1 := hide (Blk.new w 27 #[.int .i64 35, .int .i64 0, .int .i64 (K : Int)])
    have HA1 := hide ((unhide HA).below hba)
    have HKC := hide (HKD.out _ (unhide HA1))
    clear hba HKD HA
    go_enter Tryz.func60, Tryz.ntmps60
    go_wp2_with fail
    refine (unhide HKC).mono ?_
    rintro e w2 ⟨X, m, cx, rfl, hm, ho, hb2⟩
    obtain rfl : K = m := (hm.trans HPL.out).symm
    have HO2 := hide ho
    have HB2 := hide ((unhide HB1).trans (hb2.mono (unhide HB1).size))
    have HX2 := hide ((unhide HX1).below hb2 (unhide HX1).lt)
    have HA2 := hide ((unhide HA1).below hb2)
    clear hm ho hb2 HB1 HX1 HA1 HKC x0 x1 x2
    obtain ⟨bx, hbx⟩ : ∃ bx, bx = w.heap.size := ⟨_, rfl⟩
    rw [← hbx] at HX2 ⊢
    have HBXE := Lib.hid hbx
    clear hbx
    go_wp2_with fail
    go_loopw [10] (fun kv wr => ∃ k : Nat, kv = .int .i64 k ∧ k ≤ K ∧ Hid (Below w2.heap.size w2 wr)) (fun kv _ => K - (intOf kv).toNat)
    case atStart => exact ⟨0, rfl, by omega, Below.refl _ _⟩
    case round =>
      obtain ⟨k, rfl, hk, hB⟩ := hrel
      by_cases hlt : k < K
      · obtain ⟨op2, n2, k2, h1, h2, h3, h4, h5⟩ := HIH.out k hlt
        obtain ⟨bq, oq, hXe, hbq, y0⟩ := at1s ((InC.own (unhide HO2)).below hB.out) (i := k) (u := natV (cu k)) (by rw [List.getElem?_map, h1]; rfl)
        have hcl0 := ((unhide HX2).below hB.out (unhide HX2).lt).cell 0
        have hcl1 := ((unhide HX2).below hB.out (unhide HX2).lt).cell 1
        have hcl2 := ((unhide HX2).below hB.out (unhide HX2).lt).cell 2
        change wr.cell? ⟨bx, 0, none⟩ = some (.int .i64 35) at hcl0
        change wr.cell? ⟨bx, 1, none⟩ = some (.int .i64 0) at hcl1
        change wr.cell? ⟨bx, 2, none⟩ = some (.int .i64 (K : Int)) at hcl2
        obtain ⟨ba, oa, hAe2, hb3, z0, z1, z2⟩ := cd_at ((unhide HA2).below hB.out) h3
        injection hAe2 with hAe3
        injection hAe3 with hA4 hA5
        subst hA4 hA5 hXe
        dsimp only at z0
        change wr.cell? ⟨bq, oq + k, none⟩ = some (.int .i64 (cu k : Int)) at y0
        have HC5 := Lib.hid h5
        have H4 := Lib.hid h4
        have HAr := hide ((unhide HA2).below hB.out)
        generalize cu k = ck at *
        clear h1 h3 h4 h5 hbq hb3 z1 z2
        go_wp2_with fail
        refine (HC5.out _ (unhide HAr)).mono ?_
        rintro e w3 ⟨rfl, hb3⟩
        have HB3 := hide (hB.out.trans (hb3.mono hB.out.size))
        clear hb3 hB
        go_wp2_with fail
        go_roundw
        case rel => exact ⟨k + 1, by go_num, by omega, unhide HB3⟩
        case measure => simp [intOf] <;> omega
      · obtain rfl : k = K := by omega
        have HB4 := hide (hB.out)
        go_wp2_with fail
        go_ret
        exact ⟨rfl, (unhide HB2).trans ((unhide HB4).mono (unhide HB2).size)⟩
  · simp at hp1
    obtain ⟨hn0, hnk⟩ := hp1
    have hba : Below w.heap.size w (w.alloc (.cells #[.int .i64 36, .int .i64 num, .int .i64 (K : Int)] 27)) := (Below.refl _ _).alloc (Nat.le_refl _) _
    have HB1 := hide hba
    have HX1 := hide (Blk.new w 27 #[.int .i64 36, .int .i64 num, .int .i64 (K : Int)])
    have HA1 := hide ((unhide HA).below hba)
    have HKC := hide (HKD.out _ (unhide HA1))
    clear hba HKD HA
    go_enter Tryz.func60, Tryz.ntmps60
    go_wp2_with fail
    refine (unhide HKC).mono ?_
    rintro e w2 ⟨X, m, cx, rfl, hm, ho, hb2⟩
    obtain rfl : K = m := (hm.trans HPL.out).symm
    have HO2 := hide ho
    have HB2 := hide ((unhide HB1).trans (hb2.mono (unhide HB1).size))
    have HX2 := hide ((unhide HX1).below hb2 (unhide HX1).lt)
    have HA2 := hide ((unhide HA1).below hb2)
    clear hm ho hb2 HB1 HX1 HA1 HKC x0 x1 x2
    obtain ⟨bx, hbx⟩ : ∃ bx, bx = w.heap.size := ⟨_, rfl⟩
    rw [← hbx] at HX2 ⊢
    have HBXE := Lib.hid hbx
    clear hbx
    go_wp2_with fail
    go_loopw [10] (fun kv wr => ∃ k : Nat, kv = .int .i64 k ∧ k ≤ K ∧ Hid (Below w2.heap.size w2 wr)) (fun kv _ => K - (intOf kv).toNat)
    case atStart => exact ⟨0, rfl, by omega, Below.refl _ _⟩
    case round =>
      obtain ⟨k, rfl, hk, hB⟩ := hrel
      by_cases hlt : k < K
      · obtain ⟨op2, n2, k2, h1, h2, h3, h4, h5⟩ := HIH.out k hlt
        obtain ⟨bq, oq, hXe, hbq, y0⟩ := at1s ((InC.own (unhide HO2)).below hB.out) (i := k) (u := natV (cu k)) (by rw [List.getElem?_map, h1]; rfl)
        have hcl0 := ((unhide HX2).below hB.out (unhide HX2).lt).cell 0
        have hcl1 := ((unhide HX2).below hB.out (unhide HX2).lt).cell 1
        have hcl2 := ((unhide HX2).below hB.out (unhide HX2).lt).cell 2
        change wr.cell? ⟨bx, 0, none⟩ = some (.int .i64 36) at hcl0
        change wr.cell? ⟨bx, 1, none⟩ = some (.int .i64 num) at hcl1
        change wr.cell? ⟨bx, 2, none⟩ = some (.int .i64 (K : Int)) at hcl2
        obtain ⟨ba, oa, hAe2, hb3, z0, z1, z2⟩ := cd_at ((unhide HA2).below hB.out) h3
        injection hAe2 with hAe3
        injection hAe3 with hA4 hA5
        subst hA4 hA5 hXe
        dsimp only at z0
        change wr.cell? ⟨bq, oq + k, none⟩ = some (.int .i64 (cu k : Int)) at y0
        have HC5 := Lib.hid h5
        have H4 := Lib.hid h4
        have HAr := hide ((unhide HA2).below hB.out)
        generalize cu k = ck at *
        clear h1 h3 h4 h5 hbq hb3 z1 z2
        by_cases hkn : (k : Int) = num
        · have hop : op2 = 30 ∨ op2 = 31 := by
            have h := HC1.out
            unfold catB at h
            rw [show num.toNat = k by omega, H4.out] at h
            simp [anyOp] at h
            exact h
          have gkn : ((k : Int) == num) = true := beq_iff_eq.2 hkn
          clear HC1 H4 hkn
          rcases hop with rfl | rfl
          · go_wp2_with fail
            refine (HC5.out _ (unhide HAr)).mono ?_
            rintro e w3 ⟨rfl, hb3⟩
            have HB3 := hide (hB.out.trans (hb3.mono hB.out.size))
            clear hb3 hB
            go_wp2_with fail
            go_roundw
            case rel => exact ⟨k + 1, by go_num, by omega, unhide HB3⟩
            case measure => simp [intOf] <;> omega
          · go_wp2_with fail
            refine (HC5.out _ (unhide HAr)).mono ?_
            rintro e w3 ⟨rfl, hb3⟩
            have HB3 := hide (hB.out.trans (hb3.mono hB.out.size))
            clear hb3 hB
            go_wp2_with fail
            go_roundw
            case rel => exact ⟨k + 1, by go_num, by omega, unhide HB3⟩
            case measure => simp [intOf] <;> omega
        · have gkn : ((k : Int) == num) = false := beq_eq_false_iff_ne.2 hkn
          clear hkn HC1 H4
          go_wp2_with fail
          refine (HC5.out _ (unhide HAr)).mono ?_
          rintro e w3 ⟨rfl, hb3⟩
          have HB3 := hide (hB.out.trans (hb3.mono hB.out.size))
          clear hb3 hB
          go_wp2_with fail
          go_roundw
          case rel => exact ⟨k + 1, by go_num, by omega, unhide HB3⟩
          case measure => simp [intOf] <;> omega
      · obtain rfl : k = K := by omega
        have HB4 := hide (hB.out)
        go_wp2_with fail
        go_ret
        exact ⟨rfl, (unhide HB2).trans ((unhide HB4).mono (unhide HB2).size)⟩
  · simp at hp1
    obtain ⟨rfl, hk01⟩ := hp1
    have hk1i : (K : Int) ≤ 1 := by omega
    clear hk01
    have hba : Below w.heap.size w (w.alloc (.cells #[.int .i64 37, .int .i64 0, .int .i64 (K : Int)] 27)) := (Below.refl _ _).alloc (Nat.le_refl _) _
    have HB1 := hide hba
    have HX1 := hide (Blk.new w 27 #[.int .i64 37, .int .i64 0, .int .i64 (K : Int)])
    have HA1 := hide ((unhide HA).below hba)
    have HKC := hide (HKD.out _ (unhide HA1))
    clear hba HKD HA
    go_enter Tryz.func60, Tryz.ntmps60
    go_wp2_with fail
    refine (unhide HKC).mono ?_
    rintro e w2 ⟨X, m, cx, rfl, hm, ho, hb2⟩
    obtain rfl : K = m := (hm.trans HPL.out).symm
    have HO2 := hide ho
    have HB2 := hide ((unhide HB1).trans (hb2.mono (unhide HB1).size))
    have HX2 := hide ((unhide HX1).below hb2 (unhide HX1).lt)
    have HA2 := hide ((unhide HA1).below hb2)
    clear hm ho hb2 HB1 HX1 HA1 HKC x0 x1 x2
    obtain ⟨bx, hbx⟩ : ∃ bx, bx = w.heap.size := ⟨_, rfl⟩
    rw [← hbx] at HX2 ⊢
    have HBXE := Lib.hid hbx
    clear hbx
    go_wp2_with fail
    go_loopw [10] (fun kv wr => ∃ k : Nat, kv = .int .i64 k ∧ k ≤ K ∧ Hid (Below w2.heap.size w2 wr)) (fun kv _ => K - (intOf kv).toNat)
    case atStart => exact ⟨0, rfl, by omega, Below.refl _ _⟩
    case round =>
      obtain ⟨k, rfl, hk, hB⟩ := hrel
      by_cases hlt : k < K
      · obtain ⟨op2, n2, k2, h1, h2, h3, h4, h5⟩ := HIH.out k hlt
        obtain ⟨bq, oq, hXe, hbq, y0⟩ := at1s ((InC.own (unhide HO2)).below hB.out) (i := k) (u := natV (cu k)) (by rw [List.getElem?_map, h1]; rfl)
        have hcl0 := ((unhide HX2).below hB.out (unhide HX2).lt).cell 0
        have hcl1 := ((unhide HX2).below hB.out (unhide HX2).lt).cell 1
        have hcl2 := ((unhide HX2).below hB.out (unhide HX2).lt).cell 2
        change wr.cell? ⟨bx, 0, none⟩ = some (.int .i64 37) at hcl0
        change wr.cell? ⟨bx, 1, none⟩ = some (.int .i64 0) at hcl1
        change wr.cell? ⟨bx, 2, none⟩ = some (.int .i64 (K : Int)) at hcl2
        obtain ⟨ba, oa, hAe2, hb3, z0, z1, z2⟩ := cd_at ((unhide HA2).below hB.out) h3
        injection hAe2 with hAe3
        injection hAe3 with hA4 hA5
        subst hA4 hA5 hXe
        dsimp only at z0
        change wr.cell? ⟨bq, oq + k, none⟩ = some (.int .i64 (cu k : Int)) at y0
        have HC5 := Lib.hid h5
        have H4 := Lib.hid h4
        have HAr := hide ((unhide HA2).below hB.out)
        generalize cu k = ck at *
        clear h1 h3 h4 h5 hbq hb3 z1 z2
        go_wp2_with fail
        refine (HC5.out _ (unhide HAr)).mono ?_
        rintro e w3 ⟨rfl, hb3⟩
        have HB3 := hide (hB.out.trans (hb3.mono hB.out.size))
        clear hb3 hB
        go_wp2_with fail
        go_roundw
        case rel => exact ⟨k + 1, by go_num, by omega, unhide HB3⟩
        case measure => simp [intOf] <;> omega
      · obtain rfl : k = K := by omega
        have HB4 := hide (hB.out)
        go_wp2_with fail
        go_ret
        exact ⟨rfl, (unhide HB2).trans ((unhide HB4).mono (unhide HB2).size)⟩
  · clear hp1
    have hba : Below w.heap.size w (w.alloc (.cells #[.int .i64 38, .int .i64 num, .int .i64 (K : Int)] 27)) := (Below.refl _ _).alloc (Nat.le_refl _) _
    have HB1 := hide hba
    have HX1 := hide (Blk.new w 27 #[.int .i64 38, .int .i64 num, .int .i64 (K : Int)])
    have HA1 := hide ((unhide HA).below hba)
    have HKC := hide (HKD.out _ (unhide HA1))
    clear hba HKD HA
    go_enter Tryz.func60, Tryz.ntmps60
    go_wp2_with fail
    refine (unhide HKC).mono ?_
    rintro e w2 ⟨X, m, cx, rfl, hm, ho, hb2⟩
    obtain rfl : K = m := (hm.trans HPL.out).symm
    have HO2 := hide ho
    have HB2 := hide ((unhide HB1).trans (hb2.mono (unhide HB1).size))
    have HX2 := hide ((unhide HX1).below hb2 (unhide HX1).lt)
    have HA2 := hide ((unhide HA1).below hb2)
    clear hm ho hb2 HB1 HX1 HA1 HKC x0 x1 x2
    obtain ⟨bx, hbx⟩ : ∃ bx, bx = w.heap.size := ⟨_, rfl⟩
    rw [← hbx] at HX2 ⊢
    have HBXE := Lib.hid hbx
    clear hbx
    go_wp2_with fail
    go_loopw [10] (fun kv wr => ∃ k : Nat, kv = .int .i64 k ∧ k ≤ K ∧ Hid (Below w2.heap.size w2 wr)) (fun kv _ => K - (intOf kv).toNat)
    case atStart => exact ⟨0, rfl, by omega, Below.refl _ _⟩
    case round =>
      obtain ⟨k, rfl, hk, hB⟩ := hrel
      by_cases hlt : k < K
      · obtain ⟨op2, n2, k2, h1, h2, h3, h4, h5⟩ := HIH.out k hlt
        obtain ⟨bq, oq, hXe, hbq, y0⟩ := at1s ((InC.own (unhide HO2)).below hB.out) (i := k) (u := natV (cu k)) (by rw [List.getElem?_map, h1]; rfl)
        have hcl0 := ((unhide HX2).below hB.out (unhide HX2).lt).cell 0
        have hcl1 := ((unhide HX2).below hB.out (unhide HX2).lt).cell 1
        have hcl2 := ((unhide HX2).below hB.out (unhide HX2).lt).cell 2
        change wr.cell? ⟨bx, 0, none⟩ = some (.int .i64 38) at hcl0
        change wr.cell? ⟨bx, 1, none⟩ = some (.int .i64 num) at hcl1
        change wr.cell? ⟨bx, 2, none⟩ = some (.int .i64 (K : Int)) at hcl2
        obtain ⟨ba, oa, hAe2, hb3, z0, z1, z2⟩ := cd_at ((unhide HA2).below hB.out) h3
        injection hAe2 with hAe3
        injection hAe3 with hA4 hA5
        subst hA4 hA5 hXe
        dsimp only at z0
        change wr.cell? ⟨bq, oq + k, none⟩ = some (.int .i64 (cu k : Int)) at y0
        have HC5 := Lib.hid h5
        have H4 := Lib.hid h4
        have HAr := hide ((unhide HA2).below hB.out)
        generalize cu k = ck at *
        clear h1 h3 h4 h5 hbq hb3 z1 z2
        go_wp2_with fail
        refine (HC5.out _ (unhide HAr)).mono ?_
        rintro e w3 ⟨rfl, hb3⟩
        have HB3 := hide (hB.out.trans (hb3.mono hB.out.size))
        clear hb3 hB
        go_wp2_with fail
        go_roundw
        case rel => exact ⟨k + 1, by go_num, by omega, unhide HB3⟩
        case measure => simp [intOf] <;> omega
      · obtain rfl : k = K := by omega
        have HB4 := hide (hB.out)
        go_wp2_with fail
        go_ret
        exact ⟨rfl, (unhide HB2).trans ((unhide HB4).mono (unhide HB2).size)⟩
  · simp at hp1
    obtain ⟨rfl, hk2⟩ := hp1
    obtain rfl : K = 2 := by omega
    have hba : Below w.heap.size w (w.alloc (.cells #[.int .i64 39, .int .i64 0, .int .i64 2] 27)) := (Below.refl _ _).alloc (Nat.le_refl _) _
    have HB1 := hide hba
    have HX1 := hide (Blk.new w 27 #[.int .i64 39, .int .i64 0, .int .i64 2])
    have HA1 := hide ((unhide HA).below hba)
    have HKC := hide (HKD.out _ (unhide HA1))
    clear hba HKD HA
    go_enter Tryz.func60, Tryz.ntmps60
    go_wp2_with fail
    refine (unhide HKC).mono ?_
    rintro e w2 ⟨X, m, cx, rfl, hm, ho, hb2⟩
    obtain rfl : m = 2 := hm.trans HPL.out
    have HO2 := hide ho
    have HB2 := hide ((unhide HB1).trans (hb2.mono (unhide HB1).size))
    have HX2 := hide ((unhide HX1).below hb2 (unhide HX1).lt)
    have HA2 := hide ((unhide HA1).below hb2)
    clear hm ho hb2 HB1 HX1 HA1 HKC x0 x1 x2
    obtain ⟨bx, hbx⟩ : ∃ bx, bx = w.heap.size := ⟨_, rfl⟩
    rw [← hbx] at HX2 ⊢
    have HBXE := Lib.hid hbx
    clear hbx
    go_wp2_with fail
    go_loopw [10] (fun kv wr => ∃ k : Nat, kv = .int .i64 k ∧ k ≤ 2 ∧ Hid (Below w2.heap.size w2 wr)) (fun kv _ => 2 - (intOf kv).toNat)
    case atStart => exact ⟨0, rfl, by omega, Below.refl _ _⟩
    case round =>
      obtain ⟨k, rfl, hk, hB⟩ := hrel
      by_cases hlt : k < 2
      · obtain ⟨op2, n2, k2, h1, h2, h3, h4, h5⟩ := HIH.out k hlt
        obtain ⟨bq, oq, hXe, hbq, y0⟩ := at1s ((InC.own (unhide HO2)).below hB.out) (i := k) (u := natV (cu k)) (by rw [List.getElem?_map, h1]; rfl)
        have hcl0 := ((unhide HX2).below hB.out (unhide HX2).lt).cell 0
        have hcl1 := ((unhide HX2).below hB.out (unhide HX2).lt).cell 1
        have hcl2 := ((unhide HX2).below hB.out (unhide HX2).lt).cell 2
        change wr.cell? ⟨bx, 0, none⟩ = some (.int .i64 39) at hcl0
        change wr.cell? ⟨bx, 1, none⟩ = some (.int .i64 0) at hcl1
        change wr.cell? ⟨bx, 2, none⟩ = some (.int .i64 2) at hcl2
        obtain ⟨ba, oa, hAe2, hb3, z0, z1, z2⟩ := cd_at ((unhide HA2).below hB.out) h3
        injection hAe2 with hAe3
        injection hAe3 with hA4 hA5
        subst hA4 hA5 hXe
        dsimp only at z0
        change wr.cell? ⟨bq, oq + k, none⟩ = some (.int .i64 (cu k : Int)) at y0
        have HC5 := Lib.hid h5
        have H4 := Lib.hid h4
        have HAr := hide ((unhide HA2).below hB.out)
        generalize cu k = ck at *
        clear h1 h3 h4 h5 hbq hb3 z1 z2
        go_wp2_with fail
        refine (HC5.out _ (unhide HAr)).mono ?_
        rintro e w3 ⟨rfl, hb3⟩
        have HB3 := hide (hB.out.trans (hb3.mono hB.out.size))
        clear hb3 hB
        go_wp2_with fail
        go_roundw
        case rel => exact ⟨k + 1, by go_num, by omega, unhide HB3⟩
        case measure => simp [intOf] <;> omega
      · obtain rfl : k = 2 := by omega
        have HB4 := hide (hB.out)
        go_wp2_with fail
        go_ret
        exact ⟨rfl, (unhide HB2).trans ((unhide HB4).mono (unhide HB2).size)⟩
  · simp at hp1
    obtain ⟨rfl, hk2⟩ := hp1
    obtain rfl : K = 2 := by omega
    have hba : Below w.heap.size w (w.alloc (.cells #[.int .i64 40, .int .i64 0, .int .i64 2] 27)) := (Below.refl _ _).alloc (Nat.le_refl _) _
    have HB1 := hide hba
    have HX1 := hide (Blk.new w 27 #[.int .i64 40, .int .i64 0, .int .i64 2])
    have HA1 := hide ((unhide HA).below hba)
    have HKC := hide (HKD.out _ (unhide HA1))
    clear hba HKD HA
    go_enter Tryz.func60, Tryz.ntmps60
    go_wp2_with fail
    refine (unhide HKC).mono ?_
    rintro e w2 ⟨X, m, cx, rfl, hm, ho, hb2⟩
    obtain rfl : m = 2 := hm.trans HPL.out
    have HO2 := hide ho
    have HB2 := hide ((unhide HB1).trans (hb2.mono (unhide HB1).size))
    have HX2 := hide ((unhide HX1).below hb2 (unhide HX1).lt)
    have HA2 := hide ((unhide HA1).below hb2)
    clear hm ho hb2 HB1 HX1 HA1 HKC x0 x1 x2
    obtain ⟨bx, hbx⟩ : ∃ bx, bx = w.heap.size := ⟨_, rfl⟩
    rw [← hbx] at HX2 ⊢
    have HBXE := Lib.hid hbx
    clear hbx
    go_wp2_with fail
    go_loopw [10] (fun kv wr => ∃ k : Nat, kv = .int .i64 k ∧ k ≤ 2 ∧ Hid (Below w2.heap.size w2 wr)) (fun kv _ => 2 - (intOf kv).toNat)
    case atStart => exact ⟨0, rfl, by omega, Below.refl _ _⟩
    case round =>
      obtain ⟨k, rfl, hk, hB⟩ := hrel
      by_cases hlt : k < 2
      · obtain ⟨op2, n2, k2, h1, h2, h3, h4, h5⟩ := HIH.out k hlt
        obtain ⟨bq, oq, hXe, hbq, y0⟩ := at1s ((InC.own (unhide HO2)).below hB.out) (i := k) (u := natV (cu k)) (by rw [List.getElem?_map, h1]; rfl)
        have hcl0 := ((unhide HX2).below hB.out (unhide HX2).lt).cell 0
        have hcl1 := ((unhide HX2).below hB.out (unhide HX2).lt).cell 1
        have hcl2 := ((unhide HX2).below hB.out (unhide HX2).lt).cell 2
        change wr.cell? ⟨bx, 0, none⟩ = some (.int .i64 40) at hcl0
        change wr.cell? ⟨bx, 1, none⟩ = some (.int .i64 0) at hcl1
        change wr.cell? ⟨bx, 2, none⟩ = some (.int .i64 2) at hcl2
        obtain ⟨ba, oa, hAe2, hb3, z0, z1, z2⟩ := cd_at ((unhide HA2).below hB.out) h3
        injection hAe2 with hAe3
        injection hAe3 with hA4 hA5
        subst hA4 hA5 hXe
        dsimp only at z0
        change wr.cell? ⟨bq, oq + k, none⟩ = some (.int .i64 (cu k : Int)) at y0
        have HC5 := Lib.hid h5
        have H4 := Lib.hid h4
        have HAr := hide ((unhide HA2).below hB.out)
        generalize cu k = ck at *
        clear h1 h3 h4 h5 hbq hb3 z1 z2
        go_wp2_with fail
        refine (HC5.out _ (unhide HAr)).mono ?_
        rintro e w3 ⟨rfl, hb3⟩
        have HB3 := hide (hB.out.trans (hb3.mono hB.out.size))
        clear hb3 hB
        go_wp2_with fail
        go_roundw
        case rel => exact ⟨k + 1, by go_num, by omega, unhide HB3⟩
        case measure => simp [intOf] <;> omega
      · obtain rfl : k = 2 := by omega
        have HB4 := hide (hB.out)
        go_wp2_with fail
        go_ret
        exact ⟨rfl, (unhide HB2).trans ((unhide HB4).mono (unhide HB2).size)⟩
theorem form_all : ∀ e, e ≤ 64 → FormCon e := by
  intro e
  induction e with
  | zero =>
    intro _ o num f p pre post A n c D w hok
    obtain ⟨e', he', _⟩ := F.ok_node hok
    omega
  | succ e ih => intro h; exact form_up e (by omega) (ih (by omega))
set_option linter.unusedSimpArgs false in
set_option maxRecDepth 100000 in
set_option maxHeartbeats 6400000 in
theorem rpattern_t (t : F) (h1 : ∃ o n k, t = .node o n k .nil) (h : t.ok 64 = true) (A : Option Addr) (n c : Nat) (w : World) (hn : n = t.fl.length) (hn8 : n ≤ 8192) (hA : InC w A (t.fl.flatMap cdCells)) :
    Calls Tryz.prog 43 #[.slice A n c] w fun e w' => e = .returned (.bool true) ∧ Below w.heap.size w w' := by
  obtain ⟨o, num, k, rfl⟩ := h1
  have HE := Lib.hid (fun W (hW : InC W A ((F.node o num k .nil).fl.flatMap cdCells)) => rend_t o num k (F.node o num k .nil).fl [] [] A n c W (by simp) hn hn8 hW)
  have HF := Lib.hid (fun W (hW : InC W A ((F.node o num k .nil).fl.flatMap cdCells)) => form_all 64 (Nat.le_refl _) o num k (F.node o num k .nil).fl [] [] A n c 1 W h (by simp) hn hn8 (by decide) (by decide) hW)
  have hn0 : 0 < n := by rw [hn]; simp [F.fl]
  have HA := hide hA
  have HEQ : Hid (([] : List Cd).length + (F.node o num k .nil).fl.length = n) := Lib.hid (by rw [hn]; simp)
  rw [HEQ.out] at HE
  rw [show ((([] : List Cd).length : Nat) : Int) = 0 from rfl] at HE HF
  clear h hn hA HEQ
  go_enter Tryz.func43, Tryz.ntmps43
  go_wp2_with fail
  refine (HE.out _ (unhide HA)).mono ?_
  rintro e w1 ⟨rfl, hb1⟩
  have HB1 := hide hb1
  have HA1 := hide ((unhide HA).below hb1)
  clear hb1 HE HA
  go_wp2_with fail
  refine (HF.out _ (unhide HA1)).mono ?_
  rintro e w2 ⟨rfl, hb2⟩
  have HB2 := hide ((unhide HB1).trans (hb2.mono (unhide HB1).size))
  clear hb2
  go_wp2_with fail
  go_ret
  exact ⟨rfl, unhide HB2⟩

end Go.Proofs.YtdifpemohdnolaaGreat
namespace Go.Proofs.YtdifpemohdnolaaGreat
open Go.RowKit VM

def F.drop : F → Nat → F
  | f, 0 => f
  | .nil, _ + 1 => .nil
  | .node _ _ _ r, m + 1 => r.drop m
theorem drop_zero (f : F) : f.drop 0 = f := by cases f <;> rfl
theorem drop_all : ∀ (f : F), f.drop f.cnt = .nil
  | .nil => rfl
  | .node _ _ _ r => drop_all r
theorem kid_b : ∀ (f : F) (m : Nat) {d i : Nat}, m < f.cnt → f.ok d = true → ∃ (a : List Cd) (o n : Int) (k : F) (b : List Cd), f.fl = a ++ (F.node o n k .nil).fl ++ b ∧ f.cur i m = i + a.length ∧ (f.pos i)[m]? = some (f.cur i m) ∧ (F.node o n k .nil).ok d = true ∧ f.drop m = .node o n k (f.drop (m + 1)) ∧ (f.drop (m + 1)).ok d = true
  | .nil, m, d, i, h, _ => by cases h
  | .node o n k r, 0, d, i, h, hk => by
    refine ⟨[], o, n, k, r.fl, by simp [F.fl], rfl, rfl, ?_, ?_, ?_⟩
    · unfold F.ok at hk ⊢
      simp only [Bool.and_eq_true] at hk ⊢
      exact ⟨hk.1, rfl⟩
    · show F.node o n k r = .node o n k (r.drop 0)
      rw [drop_zero]
    · show (r.drop 0).ok d = true
      rw [drop_zero]
      obtain ⟨e, rfl, h1, h2, h3, h4⟩ := F.ok_node hk
      exact h4
  | .node o n k r, m + 1, d, i, h, hk => by
    obtain ⟨e, rfl, h1, h2, h3, h4⟩ := F.ok_node hk
    obtain ⟨a, o2, n2, k2, b, g1, g2, g4, g5, g6, g7⟩ := kid_b r m (i := i + 1 + k.fl.length) (by have : m + 1 < r.cnt + 1 := h; omega) h4
    refine ⟨(o, n, (k.cnt : Int)) :: (k.fl ++ a), o2, n2, k2, b, ?_, ?_, g4, g5, g6, g7⟩
    · show (o, n, (k.cnt : Int)) :: (k.fl ++ r.fl) = _
      rw [g1]
      simp
    · show r.cur (i + 1 + k.fl.length) m = _
      rw [g2, List.length_cons, List.length_append]
      omega
theorem rb_one (o n : Int) (k r : F) (vs : List ByteArray) : (F.node o n k r).rb vs = match (F.node o n k .nil).rb vs with
    | none => none
    | some (xs, q) => match r.rb q with
      | none => none
      | some (ys, q2) => some (xs ++ ys, q2) := by
  rw [rb_node, rb_node]
  generalize (if o = 30 then (match vs with
      | [] => none
      | v :: q => if valB 32 v = true then some (v, q) else none)
      else match k.rb vs with
      | none => none
      | some (l, q) => if valB 32 (joinR (o, n, (k.cnt : Int)) l) = true then some (joinR (o, n, (k.cnt : Int)) l, q) else none) = z
  cases z with
  | none => rfl
  | some x => rfl
theorem bd_sub : ∀ (f : F) {vs xs q : List ByteArray}, f.bd vs = some (xs, q) → ∀ s ∈ q, s ∈ vs
  | .nil, _, _, _, h, s, hs => by cases h; exact hs
  | .node o n k r, vs, xs, q, h, s, hs => by
    rcases bd_cases h with ⟨_, v, q1, a, rfl, h2, _⟩ | ⟨_, l, q1, a, h1, h2, _⟩
    · exact List.mem_cons_of_mem _ (bd_sub r h2 s hs)
    · exact bd_sub k h1 s (bd_sub r h2 s hs)
theorem rb_facts {f : F} {d : Nat} {vs xs q : List ByteArray} (hk : f.ok d = true) (h : f.rb vs = some (xs, q)) : (∀ s ∈ xs, valB 32 s = true) ∧ xs.length = f.cnt ∧ vs.length = f.vars + q.length ∧ ∀ s ∈ q, s ∈ vs := by
  rw [rb_bd f vs hk] at h
  cases hb : f.bd vs with
  | none => rw [hb] at h; cases h
  | some x =>
    obtain ⟨ys, q2⟩ := x
    rw [hb] at h
    simp only at h
    split at h
    · rename_i ha
      cases h
      exact ⟨List.all_eq_true.1 ha, bd_len f hb, bd_vars f hk hb, bd_sub f hb⟩
    · cases h
theorem rb_tree {o n : Int} (k : F) (vs : List ByteArray) (h30 : o ≠ 30) : (F.node o n k .nil).rb vs = match k.rb vs with
    | none => none
    | some (l, q) => if valB 32 (joinR (o, n, (k.cnt : Int)) l) = true then some ([joinR (o, n, (k.cnt : Int)) l], q) else none := by
  rw [rb_node, if_neg h30]
  cases k.rb vs with
  | none => rfl
  | some x =>
    obtain ⟨l, q⟩ := x
    simp only
    cases valB 32 (joinR (o, n, (k.cnt : Int)) l) <;> rfl
/-- the box of the values that are left, and the pattern -/
structure RS (g B : Nat) (p : List Cd) (pA : Option Addr) (w : World) (vs : List ByteArray) : Prop where
  box : ∃ (A : Option Addr) (m d : Nat), Blk w g 24 #[.slice A m d] ∧ m = vs.length ∧ m ≤ d ∧ OutC w g B A (vs.map Value.string)
  pat : OutC w g B pA (p.flatMap cdCells)
  le : g < B ∧ B ≤ w.heap.size
theorem RS.keep {g B : Nat} {p : List Cd} {pA : Option Addr} {w w' : World} {vs : List ByteArray} (h : RS g B p pA w vs) (hk : Keep (fun k => k < w.heap.size) w w') : RS g B p pA w' vs := by
  obtain ⟨⟨A, m, d, h1, h2, h3, h4⟩, h5, h6⟩ := h
  have hk2 : BKeep g w w' := hk.mono fun _ q => q.1
  exact ⟨⟨A, m, d, h1.keep hk h1.lt, h2, h3, h4.keep hk2⟩, h5.keep hk2, h6.1, Nat.le_trans h6.2 hk.size⟩
theorem RS.below {g B : Nat} {p : List Cd} {pA : Option Addr} {w w' : World} {vs : List ByteArray} (h : RS g B p pA w vs) (hb : Below w.heap.size w w') : RS g B p pA w' vs := h.keep (Keep.below hb fun _ q => q)
theorem RS.grown {g B b1 z n : Nat} {e : TypeId} {p : List Cd} {pA : Option Addr} {w w' : World} {vs : List ByteArray} {v : Value} {xs : List Value} (h : RS g B p pA w vs) (hv : w.ownsRow b1 e z v n xs) (hb1 : B ≤ b1) (hG : w.grownBy w' v.ownBlock) : RS g B p pA w' vs := by
  have hj : ∀ j, v.ownBlock = some j → b1 ≤ j := fun j hj => (hv.lt j hj).1
  obtain ⟨⟨A, m, d, h1, h2, h3, h4⟩, h5, h6, h7⟩ := h
  have hk : ∀ (X : Option Addr) (l : List Value), OutC w g B X l → OutC w' g B X l := by
    intro X l hX
    rcases hX with q | ⟨b, off, e1, e2, e3⟩
    · exact .inl q
    · refine .inr ⟨b, off, e1, ⟨e2.1, Nat.le_trans e2.2.1 hG.size, e2.2.2⟩, fun i u hu => ?_⟩
      exact hG.cell (e3 i u hu) (fun q => by have := hj b q.symm; omega)
  exact ⟨⟨A, m, d, h1.grown hG (fun q => by have := hj g q.symm; omega), h2, h3, hk _ _ h4⟩, hk _ _ h5, h6, Nat.le_trans h7 hG.size⟩
theorem RS.lt {g B : Nat} {p : List Cd} {pA : Option Addr} {w : World} {vs : List ByteArray} (h : RS g B p pA w vs) : g < w.heap.size := by obtain ⟨⟨A, m, d, h1, _⟩, _⟩ := h; exact h1.lt
def BlPost (g B : Nat) (p : List Cd) (pA : Option Addr) (r : Option (List ByteArray × List ByteArray)) (w : World) (e : Ending) (w' : World) : Prop :=
  ∃ s, e = .returned (.tuple #[.string s, .bool r.isSome]) ∧ (∀ xs q, r = some (xs, q) → xs = [s] ∧ RS g B p pA w' q) ∧ BKeep g w w'
def BlCon (e : Nat) : Prop := ∀ (o num : Int) (f : F) (p pre post : List Cd) (pA : Option Addr) (n c g B : Nat) (vs : List ByteArray) (w : World), (F.node o num f .nil).ok e = true → p = pre ++ (F.node o num f .nil).fl ++ post → n = p.length → n ≤ 8192 → vs.length ≤ 8192 → (F.node o num f .nil).vars ≤ vs.length → (∀ s ∈ vs, s.size ≤ 281474976710656) → RS g B p pA w vs →
  Calls Tryz.prog 44 #[.slice pA n c, .int .i64 (pre.length : Int), .pointer (some ⟨g, 0, none⟩)] w (BlPost g B p pA ((F.node o num f .nil).rb vs) w)
theorem RS.pop {g B : Nat} {p : List Cd} {pA A2 : Option Addr} {w : World} {vs : List ByteArray} {x : Value} {m2 d2 : Nat} (hbx : Blk w g 24 #[x]) (hpt : OutC w g B pA (p.flatMap cdCells)) (hle : g < B ∧ B ≤ w.heap.size) (hot : OutC w g B A2 (vs.map Value.string)) (hm : m2 = vs.length) (hmd : m2 ≤ d2) (o : Obj) :
    RS g B p pA ((w.setCell ⟨g, 0, none⟩ (.slice A2 m2 d2)).alloc o) vs ∧ BKeep g w ((w.setCell ⟨g, 0, none⟩ (.slice A2 m2 d2)).alloc o) := by
  have k1 : BKeep g w (w.setCell ⟨g, 0, none⟩ (.slice A2 m2 d2)) := (Keep.refl _ w).setCell (fun q => q.2 rfl) _
  have hk : BKeep g w ((w.setCell ⟨g, 0, none⟩ (.slice A2 m2 d2)).alloc o) := k1.trans' (Keep.below ((Below.refl _ _).alloc (Nat.le_refl _) o) fun _ q => q.1)
  exact ⟨⟨⟨A2, m2, d2, (hbx.set_ 0 (.slice A2 m2 d2)).alloc o, hm, hmd, hot.keep hk⟩, hpt.keep hk, hle.1, Nat.le_trans hle.2 hk.size⟩, hk⟩
theorem BKeep.below {g : Nat} {a b c : World} (h : BKeep g a b) (hb : Below b.heap.size b c) : BKeep g a c := h.trans' (Keep.below hb fun _ q => q.1)
set_option linter.unusedSimpArgs false in
set_option maxRecDepth 100000 in
set_option maxHeartbeats 6400000 in
theorem bl_var (num : Int) (p pre post : List Cd) (pA : Option Addr) (n c g B : Nat) (v : ByteArray) (vs : List ByteArray) (w : World) (hp : p = pre ++ (F.node 30 num .nil .nil).fl ++ post) (hn : n = p.length) (hv8 : vs.length ≤ 8192) (hvs : v.size ≤ 281474976710656) (hS : RS g B p pA w (v :: vs)) :
    Calls Tryz.prog 44 #[.slice pA n c, .int .i64 (pre.length : Int), .pointer (some ⟨g, 0, none⟩)] w (BlPost g B p pA (if valB 32 v = true then some ([v], vs) else none) w) := by
  have hp2 : p = pre ++ (30, num, 0) :: post := by rw [hp]; simp [F.fl, F.cnt]
  have hget : p[pre.length]? = some (30, num, 0) := by rw [hp2]; exact pre_get
  have hin : pre.length < n := by rw [hn, hp2, List.length_append, List.length_cons]; omega
  obtain ⟨⟨A, m, d, hbx, hm, hmd, ho⟩, hpt, hle⟩ := hS
  obtain ⟨b, off, hAe, hb, x0, x1, x2⟩ := cd_at hpt.in_ hget
  dsimp only at x0 x1 x2
  subst hAe
  obtain ⟨b2, o2, rfl, hc0, hot⟩ := OutC.tail (x := .string v) (xs := vs.map Value.string) ho
  have hgl := hbx.lt
  obtain ⟨w1, hw1⟩ : ∃ z, z = w.alloc (.cells #[.int .i64 30, .int .i64 num, .int .i64 0] 27) := ⟨_, rfl⟩
  have hb1 : Below w.heap.size w w1 := by rw [hw1]; exact (Below.refl _ w).alloc (Nat.le_refl _) _
  have HX := hide hbx
  have HO := hide hot
  have HP := hide hpt
  have HLE := hide hle
  have hbx1 := hbx.below hb1 hgl
  have y1 := hbx1.cell 0
  have f1 := hbx1.frozen 0
  change w1.cell? ⟨g, 0, none⟩ = some (.slice (some ⟨b2, o2, none⟩) m d) at y1
  have y2 := cell_down hb1 hc0
  have hm1 : m = vs.length + 1 := hm
  have HM := Lib.hid hm1
  have HMD := Lib.hid hmd
  have hm0 : 1 ≤ m := by omega
  have hm9 : m ≤ 8193 := by omega
  have HV := Lib.hid (fun W => rvalid_any v hvs W)
  rw [hw1] at y1 f1 y2
  clear hp hp2 hn hget hb hbx hm hmd ho hot hpt hle hc0 hb1 hbx1 hm1 hvs hv8
  generalize pre.length = i1 at *
  obtain ⟨r, hr⟩ : ∃ r, r = (if valB 32 v = true then some ([v], vs) else none) := ⟨_, rfl⟩
  rw [← hr]
  have HR := Lib.hid hr
  clear hr
  go_enter Tryz.func44, Tryz.ntmps44
  go_wp2_with fail
  · have hvs0 : vs = [] := List.eq_nil_of_length_eq_zero (by have := HM.out; have := HMD.out; omega)
    have hf := RS.pop (A2 := some ⟨b2, o2, none⟩) (vs := vs) (m2 := m - 1) (d2 := 0) (unhide HX) (unhide HP) (unhide HLE) (.inl (by rw [hvs0]; rfl)) (by have := HM.out; omega) (by have := HM.out; have := HMD.out; omega) (.cells #[.int .i64 30, .int .i64 num, .int .i64 0] 27)
    refine (HV.out _).mono ?_
    rintro e w3 ⟨rfl, hb3⟩
    have HF := Lib.hid hf
    have HB3 := hide hb3
    clear hf hb3
    generalize valB 32 v = bv at *
    go_wp2_with fail
    go_ret2
    exact ⟨v, by rw [HR.out]; cases bv <;> rfl, fun xs q h => (by
      rw [HR.out] at h
      cases bv with
      | false => cases h
      | true => cases h; exact ⟨rfl, HF.out.1.below (unhide HB3)⟩), HF.out.2.below (unhide HB3)⟩
  · have hf := RS.pop (A2 := some ⟨b2, o2 + 1, none⟩) (vs := vs) (m2 := m - 1) (d2 := d - 1) (unhide HX) (unhide HP) (unhide HLE) (unhide HO) (by have := HM.out; omega) (by have := HM.out; have := HMD.out; omega) (.cells #[.int .i64 30, .int .i64 num, .int .i64 0] 27)
    refine (HV.out _).mono ?_
    rintro e w3 ⟨rfl, hb3⟩
    have HF := Lib.hid hf
    have HB3 := hide hb3
    clear hf hb3
    generalize valB 32 v = bv at *
    go_wp2_with fail
    go_ret2
    exact ⟨v, by rw [HR.out]; cases bv <;> rfl, fun xs q h => (by
      rw [HR.out] at h
      cases bv with
      | false => cases h
      | true => cases h; exact ⟨rfl, HF.out.1.below (unhide HB3)⟩), HF.out.2.below (unhide HB3)⟩
theorem empty_list : (⟨#[]⟩ : ByteArray).toList = [] := by kernel_rfl
theorem valid_ne {k : UInt8} (hk : isComp k = true) (l : List ByteArray) : valB 32 (mkM k l) = !((mkM k l).toList.isEmpty) := by
  by_cases h : mkM k l = ⟨#[]⟩
  · rw [h, empty_bad, empty_list]; rfl
  · rw [(isK_valid (made hk h).1).1]
    cases he : (mkM k l).toList.isEmpty with
    | false => rfl
    | true =>
      exfalso
      apply h
      have h2 : (mkM k l).toList = [] := List.isEmpty_iff.1 he
      have h3 : (mkM k l).toList = (⟨#[]⟩ : ByteArray).toList := by rw [h2, empty_list]
      have h4 := str_beq (mkM k l) ⟨#[]⟩
      rw [h3] at h4
      simpa using h4
theorem dot_z (n : Int) (kids : Int) (l : List ByteArray) : refJ (38, n, kids) l = mkM 7 (nameI n :: l) := by
  show (if l.length ≤ 8 then mkM 7 (nameI n :: l) else ⟨#[]⟩) = _
  by_cases h : l.length ≤ 8
  · rw [if_pos h]
  · rw [if_neg h]
    refine (mkM_none (by decide) fun _ hp => ?_).symm
    unfold parted countOK at hp
    simp at hp
    omega
theorem bad_name {n : Int} (h : n < 0 ∨ 65535 < n) (l : List ByteArray) : mkM 7 (nameI n :: l) = ⟨#[]⟩ := by
  refine mkM_bad (List.mem_cons_self ..) (k := 7) (s := nameI n) ?_
  unfold nameI
  rw [if_neg (by omega)]
  exact empty_bad
/-- the loop over the children -/
structure LI (e g B : Nat) (p : List Cd) (pA : Option Addr) (f : F) (vs : List ByteArray) (w2 wr : World) (j : Nat) (xs q : List ByteArray) : Prop where
  len : xs.length = j
  rb : f.rb vs = match (f.drop j).rb q with
    | none => none
    | some (ys, q2) => some (xs ++ ys, q2)
  ok : (f.drop j).ok e = true
  vars : (f.drop j).vars ≤ q.length
  ql : q.length ≤ 8192
  qs : ∀ s ∈ q, s.size ≤ 281474976710656
  val : ∀ s ∈ xs, valB 32 s = true
  rs : RS g B p pA wr q
  keep : BKeep g w2 wr
theorem LI.step {e g B : Nat} {p : List Cd} {pA : Option Addr} {f : F} {vs : List ByteArray} {w2 wr w' : World} {j : Nat} {xs q q2 : List ByteArray} {s : ByteArray} {o2 n2 : Int} {k2 : F} (h : LI e g B p pA f vs w2 wr j xs q) (hd : f.drop j = .node o2 n2 k2 (f.drop (j + 1))) (hk : (F.node o2 n2 k2 .nil).ok e = true) (hk2 : (f.drop (j + 1)).ok e = true)
    (hr : (F.node o2 n2 k2 .nil).rb q = some ([s], q2)) (hS : RS g B p pA w' q2) (hK : BKeep g w2 w') : LI e g B p pA f vs w2 w' (j + 1) (xs ++ [s]) q2 := by
  obtain ⟨r1, r2, r3, r4⟩ := rb_facts hk hr
  have hv := h.vars
  have hq := h.ql
  have e1 : (f.drop j).vars = (F.node o2 n2 k2 .nil).vars + (f.drop (j + 1)).vars := by
    rw [hd]
    show (if o2 = 30 then 1 else 0) + k2.vars + (f.drop (j + 1)).vars = (if o2 = 30 then 1 else 0) + k2.vars + F.nil.vars + (f.drop (j + 1)).vars
    have : F.nil.vars = 0 := rfl
    omega
  refine ⟨by rw [List.length_append, h.len]; rfl, ?_, hk2, by omega, by omega, fun t ht => h.qs t (r4 t ht), fun t ht => ?_, hS, hK⟩
  · rw [h.rb, hd, rb_one, hr]
    simp only
    cases (f.drop (j + 1)).rb q2 with
    | none => rfl
    | some x => obtain ⟨ys, q3⟩ := x; simp
  · rcases List.mem_append.1 ht with ht | ht
    · exact h.val t ht
    · exact r1 t ht
theorem LI.none {e g B : Nat} {p : List Cd} {pA : Option Addr} {f : F} {vs : List ByteArray} {w2 wr : World} {j : Nat} {xs q : List ByteArray} {o2 n2 : Int} {k2 : F} (h : LI e g B p pA f vs w2 wr j xs q) (hd : f.drop j = .node o2 n2 k2 (f.drop (j + 1))) (hr : (F.node o2 n2 k2 .nil).rb q = none) : f.rb vs = none := by
  rw [h.rb, hd, rb_one, hr]
theorem LI.last {e g B : Nat} {p : List Cd} {pA : Option Addr} {f : F} {vs : List ByteArray} {w2 wr : World} {xs q : List ByteArray} (h : LI e g B p pA f vs w2 wr f.cnt xs q) : f.rb vs = some (xs, q) := by
  rw [h.rb, drop_all]
  show some (xs ++ [], q) = _
  rw [List.append_nil]
theorem small_of {xs : List ByteArray} (h : ∀ s ∈ xs, valB 32 s = true) : ∀ s ∈ xs, s.size ≤ 281474976710656 := fun s hs => by have := (tree_val (Nat.le_refl _) (h s hs)).2.2; omega
/-- the parts of a PatCat's value, after so many children -/
def catL (n : Nat) (xs : List ByteArray) : List ByteArray := if n < xs.length then xs.take n ++ pt (xs.getD n ⟨#[]⟩) ++ xs.drop (n + 1) else xs
theorem getD_left {xs ys : List ByteArray} {n : Nat} (h : n < xs.length) : (xs ++ ys).getD n ⟨#[]⟩ = xs.getD n ⟨#[]⟩ := by
  simp [List.getD, List.getElem?_append_left h]
theorem getD_last {xs : List ByteArray} {n : Nat} {s : ByteArray} (h : xs.length = n) : (xs ++ [s]).getD n ⟨#[]⟩ = s := by
  subst h
  simp [List.getD]
theorem getD_mid {xs ys : List ByteArray} {n : Nat} {s : ByteArray} (h : xs.length = n) : (xs ++ ([s] ++ ys)).getD n ⟨#[]⟩ = s := by
  subst h
  simp [List.getD]
theorem catL_len (n : Nat) (xs : List ByteArray) : (catL n xs).length ≤ xs.length + 65536 := by
  unfold catL
  split
  · have := pt_len (xs.getD n ⟨#[]⟩)
    rw [List.length_append, List.length_append, List.length_take, List.length_drop]
    omega
  · omega
theorem catL_at {xs : List ByteArray} {n : Nat} {s : ByteArray} (h : xs.length = n) : catL n (xs ++ [s]) = catL n xs ++ pt s := by
  unfold catL
  rw [if_pos (by rw [List.length_append, h]; simp), if_neg (by omega), getD_last h]
  subst h
  simp
theorem catL_snoc {xs : List ByteArray} {n : Nat} {s : ByteArray} (h : xs.length ≠ n) : catL n (xs ++ [s]) = catL n xs ++ [s] := by
  unfold catL
  by_cases h1 : n < xs.length
  · rw [if_pos (by rw [List.length_append]; omega), if_pos h1, getD_left h1, List.take_append_of_le_length (by omega), List.drop_append_of_le_length (by omega)]
    simp
  · rw [if_neg (by rw [List.length_append]; simp; omega), if_neg h1]
theorem catL_val {xs : List ByteArray} {n : Nat} (h : ∀ s ∈ xs, valB 32 s = true) : ∀ s ∈ catL n xs, valB 32 s = true := by
  intro s hs
  unfold catL at hs
  split at hs
  · rcases List.mem_append.1 hs with hs | hs
    · rcases List.mem_append.1 hs with hs | hs
      · exact h s (List.mem_of_mem_take hs)
      · exact pt_val32 _ s hs
    · exact h s (List.mem_of_mem_drop hs)
  · exact h s hs
theorem cat_z {num kids : Int} {xs : List ByteArray} (hk : num.toNat < xs.length → kindM (xs.getD num.toNat ⟨#[]⟩) = 4) (hn : num.toNat < xs.length) : refJ (36, num, kids) xs = mkM 4 (catL num.toNat xs) := by
  show (if kindM (xs.getD num.toNat ⟨#[]⟩) = 4 then mkM 4 (xs.take num.toNat ++ pt (xs.getD num.toNat ⟨#[]⟩) ++ xs.drop (num.toNat + 1)) else ⟨#[]⟩) = _
  rw [if_pos (hk hn)]
  unfold catL
  rw [if_pos hn]
set_option linter.unusedSimpArgs false in
set_option maxRecDepth 100000 in
set_option maxHeartbeats 12800000 in
theorem bl_up (e : Nat) (ih : BlCon e) : BlCon (e + 1) := by
  intro o num f p pre post pA n c g B vs w hok hp hn hn8 hv8 hvars hsz hS
  obtain ⟨e', he', hp1, hc1, hk1, -⟩ := F.ok_node hok
  obtain rfl : e' = e := by omega
  by_cases h30 : o = 30
  · obtain rfl := perm_var30 h30 hp1
    subst h30
    cases vs with
    | nil => exfalso; have : (F.node 30 num .nil .nil).vars = 1 := rfl; simp at hvars; omega
    | cons v vs =>
      have q := bl_var num p pre post pA n c g B v vs w hp hn (by simp at hv8; omega) (hsz v (List.mem_cons_self ..)) hS
      have hr : (F.node 30 num .nil .nil).rb (v :: vs) = if valB 32 v = true then some ([v], vs) else none := by
        rw [rb_node, if_pos rfl]
        simp only
        cases valB 32 v <;> rfl
      rw [hr]
      exact q
  have hp2 : p = pre ++ (o, num, (f.cnt : Int)) :: (f.fl ++ post) := by rw [hp]; simp [F.fl]
  have hget : p[pre.length]? = some (o, num, (f.cnt : Int)) := by rw [hp2]; exact pre_get
  have hpn : pre.length < n := by
    rw [hn, hp2, List.length_append, List.length_cons]
    omega
  have HKD := Lib.hid (fun W (h : InC W pA (p.flatMap cdCells)) => rkids_t (o, num, (f.cnt : Int)) f p pre post pA n c W hp2 rfl hn hn8 h)
  have HIH : Hid (∀ m, m < f.cnt → ∃ o2 n2 k2, (f.pos (pre.length + 1))[m]? = some (f.cur (pre.length + 1) m) ∧ f.drop m = .node o2 n2 k2 (f.drop (m + 1)) ∧ (F.node o2 n2 k2 .nil).ok e' = true ∧ (f.drop (m + 1)).ok e' = true ∧
      ∀ (W : World) (w2 : World) (j : Nat) (xs q : List ByteArray), j = m → LI e' g B p pA f vs w2 W j xs q → Calls Tryz.prog 44 #[.slice pA n c, .int .i64 (f.cur (pre.length + 1) m : Int), .pointer (some ⟨g, 0, none⟩)] W (BlPost g B p pA ((F.node o2 n2 k2 .nil).rb q) W)) := Lib.hid fun m hm => by
    obtain ⟨a, o2, nn, k, b, h1, h2, h4, h5, h6, h7⟩ := kid_b f m (i := pre.length + 1) hm hk1
    have hpp : p = (pre ++ [(o, num, (f.cnt : Int))] ++ a) ++ (F.node o2 nn k .nil).fl ++ (b ++ post) := by rw [hp2, h1]; simp
    have hlen : (pre ++ [(o, num, (f.cnt : Int))] ++ a).length = pre.length + 1 + a.length := by simp; omega
    refine ⟨o2, nn, k, h4, h6, h5, h7, fun W w2 j xs q hj hL => ?_⟩
    subst hj
    have hv := hL.vars
    rw [h6] at hv
    have hv2 : (F.node o2 nn k .nil).vars ≤ q.length := by
      have e1 : (F.node o2 nn k (f.drop (j + 1))).vars = (F.node o2 nn k .nil).vars + (f.drop (j + 1)).vars := by
        show (if o2 = 30 then 1 else 0) + k.vars + (f.drop (j + 1)).vars = (if o2 = 30 then 1 else 0) + k.vars + F.nil.vars + (f.drop (j + 1)).vars
        have : F.nil.vars = 0 := rfl
        omega
      omega
    have r := ih o2 nn k p (pre ++ [(o, num, (f.cnt : Int))] ++ a) (b ++ post) pA n c g B q W h5 hpp hn hn8 hL.ql hv2 hL.qs hL.rs
    rw [hlen, ← h2] at r
    exact r
  have HPL : Hid ((f.pos (pre.length + 1)).length = f.cnt) := Lib.hid (F.pos_len f _)
  have hfl : f.fl.length ≤ p.length := by
    rw [hp2, List.length_append, List.length_cons, List.length_append]
    omega
  have hcn : f.cnt ≤ 8192 := by
    have h1 := cnt_le f
    omega
  have HRT := Lib.hid (rb_tree (n := num) f vs h30)
  obtain ⟨R, hR⟩ : ∃ R, R = (F.node o num f .nil).rb vs := ⟨_, rfl⟩
  rw [← hR] at HRT ⊢
  have HLI0 : Hid (∀ W, RS g B p pA W vs → LI e' g B p pA f vs W W 0 [] vs) := Lib.hid fun W h => by
    have h2 : (F.node o num f .nil).vars = (if o = 30 then 1 else 0) + f.vars + F.nil.vars := rfl
    refine ⟨rfl, ?_, ?_, ?_, hv8, hsz, fun s h => (by cases h), h, Keep.refl _ _⟩
    · rw [drop_zero]
      cases f.rb vs with
      | none => rfl
      | some x => rfl
    · rw [drop_zero]; exact hk1
    · rw [drop_zero]; omega
  have HJR : Hid (∀ l : List ByteArray, l.length = f.cnt → joinR (o, num, (f.cnt : Int)) l = refJ (o, num, (f.cnt : Int)) l) := Lib.hid fun l hl => join_ref hp1 (by show (f.cnt : Int) = (l.length : Int); rw [hl])
  have HS := hide hS
  have HOKF := Lib.hid hk1
  have HGET := Lib.hid hget
  have HF0 : Hid (f.cnt = 0 → f = .nil) := Lib.hid cnt_nil
  clear hp hp2 hn hn8 hget hk1 hok ih hc1 hR hS hfl hv8 hvars hsz
  generalize pre.length = i1 at *
  generalize f.pos (i1 + 1) = l at *
  obtain ⟨cu, hcu⟩ : ∃ cu : Nat → Nat, ∀ m, cu m = f.cur (i1 + 1) m := ⟨fun m => f.cur (i1 + 1) m, fun _ => rfl⟩
  simp only [← hcu] at HIH
  clear hcu
  obtain ⟨K, hK⟩ : ∃ K, K = f.cnt := ⟨_, rfl⟩
  have HKE := Lib.hid hK
  rw [← hK] at HIH HPL HRT HJR HF0 HGET hp1 hcn
  clear hK
  obtain ⟨b0, off, hAe, hb0, x0, x1, x2⟩ := cd_at (unhide HS).pat.in_ HGET.out
  subst hAe
  dsimp only at x0 x1 x2
  unfold permL at hp1
  simp only at hp1
  clear hb0
  rcases (by
    rcases ops11 o with h | h | h | h | h | h | h | h | h | h | h | h
    all_goals first
      | (exact absurd h h30)
      | (subst h; simp; done)
      | (exfalso; repeat' split at hp1
         all_goals first | omega | (simp at hp1))
    : o = 31 ∨ o = 32 ∨ o = 33 ∨ o = 34 ∨ o = 35 ∨ o = 36 ∨ o = 37 ∨ o = 38 ∨ o = 39 ∨ o = 40) with rfl | rfl | rfl | rfl | rfl | rfl | rfl | rfl | rfl | rfl
  · simp at hp1
    obtain ⟨rfl, hk0⟩ := hp1
    obtain rfl : K = 0 := by omega
    have hba : Below w.heap.size w (w.alloc (.cells #[.int .i64 31, .int .i64 0, .int .i64 0] 27)) := (Below.refl _ _).alloc (Nat.le_refl _) _
    have HRN : Hid (R = none) := Lib.hid (by
      rw [HRT.out]
      cases f.rb vs with
      | none => rfl
      | some x =>
        obtain ⟨l, q⟩ := x
        have h : joinR (31, 0, 0) l = ⟨#[]⟩ := by unfold joinR; simp
        simp only
        first
          | rw [h, empty_bad]; rfl
          | (simp [h, empty_bad]; done))
    clear HRT HKD HIH HJR HF0 HLI0 HKE HPL
    go_enter Tryz.func44, Tryz.ntmps44
    go_wp2_with fail
    go_ret2
    exact ⟨⟨#[]⟩, by rw [HRN.out]; rfl, fun xs q h => (by rw [HRN.out] at h; cases h), Keep.below hba fun _ q => q.1⟩
  · simp at hp1
    obtain rfl : K = 0 := by omega
    have hba : Below w.heap.size w (w.alloc (.cells #[.int .i64 32, .int .i64 num, .int .i64 0] 27)) := (Below.refl _ _).alloc (Nat.le_refl _) _
    obtain rfl := HF0.out rfl
    have HRN : Hid (R = some ([intB num], vs)) := Lib.hid (by
      rw [HRT.out]
      have h : joinR (32, num, ((0 : Nat) : Int)) [] = intB num := by unfold joinR; simp
      have h2 : valB 32 (intB num) = true := valB_le (by decide) (int_val31 num)
      show (if valB 32 (joinR (32, num, ((0 : Nat) : Int)) []) = true then some ([joinR (32, num, ((0 : Nat) : Int)) []], vs) else none) = _
      rw [h, h2, if_pos rfl])
    clear HRT HKD HIH HJR HF0 HLI0 HKE HPL
    go_enter Tryz.func44, Tryz.ntmps44
    go_wp2_with fail
    refine (rint_any num _).mono ?_
    rintro e w3 ⟨rfl, hb3⟩
    have HB3 := hide hb3
    have HBA := hide hba
    clear hb3 hba
    go_wp2_with fail
    go_ret2
    exact ⟨intB num, by rw [HRN.out]; rfl, fun xs q h => (by rw [HRN.out] at h; cases h; exact ⟨rfl, ((unhide HS).below (unhide HBA)).below (unhide HB3)⟩), BKeep.below (Keep.below (unhide HBA) fun _ q => q.1) (unhide HB3)⟩
  · simp at hp1
    obtain ⟨hn01, hk0⟩ := hp1
    obtain rfl : K = 0 := by omega
    rcases hn01 with rfl | rfl
    · have hba : Below w.heap.size w (w.alloc (.cells #[.int .i64 33, .int .i64 0, .int .i64 0] 27)) := (Below.refl _ _).alloc (Nat.le_refl _) _
      obtain rfl := HF0.out rfl
      have HRN : Hid (R = some ([boolB false], vs)) := Lib.hid (by
        rw [HRT.out]
        have h : joinR (33, 0, ((0 : Nat) : Int)) [] = boolB false := by unfold joinR; simp
        have h2 : valB 32 (boolB false) = true := by decide
        show (if valB 32 (joinR (33, 0, ((0 : Nat) : Int)) []) = true then some ([joinR (33, 0, ((0 : Nat) : Int)) []], vs) else none) = _
        rw [h, h2, if_pos rfl])
      clear HRT HKD HIH HJR HF0 HLI0 HKE HPL
      go_enter Tryz.func44, Tryz.ntmps44
      go_wp2_with fail
      refine (rboolB_any false _).mono ?_
      rintro e w3 ⟨rfl, hb3⟩
      have HB3 := hide hb3
      have HBA := hide hba
      clear hb3 hba
      go_wp2_with fail
      go_ret2
      exact ⟨boolB false, by rw [HRN.out]; rfl, fun xs q h => (by rw [HRN.out] at h; cases h; exact ⟨rfl, ((unhide HS).below (unhide HBA)).below (unhide HB3)⟩), BKeep.below (Keep.below (unhide HBA) fun _ q => q.1) (unhide HB3)⟩
    · have hba : Below w.heap.size w (w.alloc (.cells #[.int .i64 33, .int .i64 1, .int .i64 0] 27)) := (Below.refl _ _).alloc (Nat.le_refl _) _
      obtain rfl := HF0.out rfl
      have HRN : Hid (R = some ([boolB true], vs)) := Lib.hid (by
        rw [HRT.out]
        have h : joinR (33, 1, ((0 : Nat) : Int)) [] = boolB true := by unfold joinR; simp
        have h2 : valB 32 (boolB true) = true := by decide
        show (if valB 32 (joinR (33, 1, ((0 : Nat) : Int)) []) = true then some ([joinR (33, 1, ((0 : Nat) : Int)) []], vs) else none) = _
        rw [h, h2, if_pos rfl])
      clear HRT HKD HIH HJR HF0 HLI0 HKE HPL
      go_enter Tryz.func44, Tryz.ntmps44
      go_wp2_with fail
      refine (rboolB_any true _).mono ?_
      rintro e w3 ⟨rfl, hb3⟩
      have HB3 := hide hb3
      have HBA := hide hba
      clear hb3 hba
      go_wp2_with fail
      go_ret2
      exact ⟨boolB true, by rw [HRN.out]; rfl, fun xs q h => (by rw [HRN.out] at h; cases h; exact ⟨rfl, ((unhide HS).below (unhide HBA)).below (unhide HB3)⟩), BKeep.below (Keep.below (unhide HBA) fun _ q => q.1) (unhide HB3)⟩
  · simp at hp1
    obtain ⟨rfl, hk2, hk8⟩ := hp1
    have hba : Below w.heap.size w (w.alloc (.cells #[.int .i64 34, .int .i64 0, .int .i64 (K : Int)] 27)) := (Below.refl _ _).alloc (Nat.le_refl _) _
    have HB1 := hide hba
    have HX1 := hide (Blk.new w 27 #[.int .i64 34, .int .i64 0, .int .i64 (K : Int)])
    have HS1 := hide ((unhide HS).below hba)
    have hgw : g < w.heap.size := (unhide HS).lt
    have HKC := hide (HKD.out _ (unhide HS1).pat.in_)
    clear hba HKD HS
    obtain ⟨j0, hj0, hjz0, hjz1, hjz2⟩ := info_parts val_info
    go_enter Tryz.func44, Tryz.ntmps44
    go_wp2_with fail
    refine (unhide HKC).mono ?_
    rintro e w2 ⟨X, m, cx, rfl, hm, ho, hb2⟩
    obtain rfl : K = m := (hm.trans HPL.out).symm
    have HO2 := hide ho
    have HB2 := hide ((unhide HB1).trans (hb2.mono (unhide HB1).size))
    have HX2 := hide ((unhide HX1).below hb2 (unhide HX1).lt)
    have HS2 := hide ((unhide HS1).below hb2)
    have HWB : Hid (w.heap.size < w2.heap.size) := Lib.hid (by have := (unhide HX1).lt; have := hb2.size; omega)
    have HG2 : Hid (g < w2.heap.size) := Lib.hid (unhide HS2).lt
    have HBS2 : Hid (B ≤ w2.heap.size) := Lib.hid (unhide HS2).le.2
    have HOB : Hid (∀ q, (Value.slice X K cx).ownBlock = some q → q < w2.heap.size ∧ q ≠ g) := Lib.hid fun q hq => by
      have h1 := ho.lt q hq
      have h2 : w.heap.size < (w.alloc (.cells #[.int .i64 34, .int .i64 0, .int .i64 (K : Int)] 27)).heap.size := by simp
      exact ⟨h1.2, by omega⟩
    have HL2 := hide (HLI0.out _ (unhide HS2))
    clear hm ho hb2 HB1 HX1 HS1 HKC x0 x1 x2 HS2 HLI0
    obtain ⟨bx, hbx⟩ : ∃ bx, bx = w.heap.size := ⟨_, rfl⟩
    rw [← hbx] at HX2 HWB hgw ⊢
    have HBXE := Lib.hid hbx
    have hbg : bx ≠ g := by omega
    clear hbx
    go_wp2_with fail
    go_loopw [10, 12] (fun pv jv wr => ∃ (j M : Nat) (xs q : List ByteArray), jv = .int .i64 j ∧ j ≤ K ∧ M ≤ 80000 ∧ Hid (M = (xs).length) ∧ Hid (LI e' g B p (some ⟨b0, off, none⟩) f vs w2 wr j xs q) ∧ Hid (wr.ownsRow w2.heap.size 23 1 pv M ((xs).map Value.string))) (fun _ jv _ => K - (intOf jv).toNat)
    case atStart => exact ⟨0, 0, [], vs, rfl, by omega, by omega, Lib.hid rfl, HL2, World.ownsRow_nil _ _ _ _⟩
    case round =>
      clear HL2
      obtain ⟨j, M, xs, q, rfl, hj, hM, hMe, hL, hO⟩ := hrel
      obtain ⟨V, cv, rfl⟩ := owns_form hO.out
      have HXr := hide ((unhide HX2).keep hL.out.keep ⟨HWB.out, hbg⟩)
      have hcl0 := (unhide HXr).cell 0
      have hcl1 := (unhide HXr).cell 1
      have hcl2 := (unhide HXr).cell 2
      change wr.cell? ⟨bx, 0, none⟩ = some (.int .i64 34) at hcl0
      change wr.cell? ⟨bx, 1, none⟩ = some (.int .i64 0) at hcl1
      change wr.cell? ⟨bx, 2, none⟩ = some (.int .i64 (K : Int)) at hcl2
      by_cases hlt : j < K
      · obtain ⟨o2, n2, k2, h1, h2, h3, h4, h5⟩ := HIH.out j hlt
        have HOr := owns_keep (unhide HO2) hL.out.keep (fun q hq => HOB.out q hq)
        obtain ⟨bq, oq, hXe, hbq, y0⟩ := at1s (InC.own HOr) (i := j) (u := natV (cu j)) (by rw [List.getElem?_map, h1]; rfl)
        change wr.cell? ⟨bq, oq + j, none⟩ = some (.int .i64 (cu j : Int)) at y0
        subst hXe
        have HC5 := hide (h5 wr w2 j xs q rfl hL.out)
        have H2 := Lib.hid h2
        have H3 := Lib.hid h3
        have H4 := Lib.hid h4
        obtain ⟨r, hr⟩ : ∃ r, r = (F.node o2 n2 k2 .nil).rb q := ⟨_, rfl⟩
        rw [← hr] at HC5
        have HR := Lib.hid hr
        generalize cu j = ck at *
        clear h1 h2 h3 h4 h5 hbq HOr hr hcl0 hcl1 hcl2
        go_wp2_with fail
        refine (unhide HC5).mono ?_
        rintro e w3 ⟨s, rfl, hsome, hk3⟩
        have HK3 := hide (hL.out.keep.trans' hk3)
        have HO3 := hide (owns_keep hO.out hk3 (fun q hq => ⟨(hO.out.lt q hq).2, by have := (hO.out.lt q hq).1; have := HG2.out; omega⟩))
        have HX3 := hide ((unhide HX2).keep (unhide HK3) ⟨HWB.out, hbg⟩)
        have hcl0 := (unhide HX3).cell 0
        have hcl1 := (unhide HX3).cell 1
        change w3.cell? ⟨bx, 0, none⟩ = some (.int .i64 34) at hcl0
        change w3.cell? ⟨bx, 1, none⟩ = some (.int .i64 0) at hcl1
        clear hk3 HC5 hO y0 HX3 HXr
        cases r with
        | none =>
          have HRN : Hid (R = none) := Lib.hid (by rw [HRT.out, hL.out.none H2.out HR.out.symm])
          clear hsome hcl0 hcl1
          simp only [Option.isSome_none]
          go_wp2_with fail
          go_ret2
          exact ⟨⟨#[]⟩, by rw [HRN.out]; rfl, fun xs q h => (by rw [HRN.out] at h; cases h), BKeep.trans' (Keep.below (unhide HB2) fun _ q => q.1) (unhide HK3)⟩
        | some rr =>
          obtain ⟨ys1, q2⟩ := rr
          obtain ⟨rfl, hS3⟩ := hsome ys1 q2 rfl
          have HS3 := hide hS3
          have HSV := Lib.hid ((rb_facts H3.out HR.out.symm).1 s (List.mem_cons_self ..))
          have HSS : Hid (s.size ≤ 281474976710656) := Lib.hid (by have := (tree_val (Nat.le_refl _) HSV.out).2.2; omega)
          clear hsome hS3
          simp only [Option.isSome_some]
          have hba : Below w3.heap.size w3 (w3.alloc (.cells #[.string s] 23)) := (Below.refl _ _).alloc (Nat.le_refl _) _
          have HO4 := hide (owns_below (unhide HO3) hba)
          have HS4 := hide ((unhide HS3).below hba)
          have HK4 := hide (BKeep.below (unhide HK3) hba)
          have hsz : w2.heap.size ≤ (w3.alloc (.cells #[.string s] 23)).heap.size := (unhide HK4).size
          clear hba HS3 HO3 HK3
          go_wp2_with (at_builtin; refine wpList_app _ rfl _ _ 24 rfl w2.heap.size 23 j0 _ 1 16 Tryz.underlying24 hj0 hjz0 hjz1 hjz2 rfl (by decide) _ M _ rfl (unhide HO4) (some ⟨w3.heap.size, 0, none⟩) 1 1 [.string s] rfl rfl (new_in w3 23 #[.string s]) (one_str s) (by unfold maxLen; omega) (by omega) hsz ?_; intro v5 w5 hown5 hgrow5 _)
          have HS5 := hide ((unhide HS4).grown (unhide HO4) HBS2.out hgrow5)
          have HK5 : Hid (BKeep g w2 w5) := hide ((unhide HK4).grown hgrow5 (fun k q => q.1) (fun k hk q => by have := ((unhide HO4).lt k hk).1; omega))
          have HL5 := hide (hL.out.step H2.out H3.out H4.out HR.out.symm (unhide HS5) (unhide HK5))
          have HXL : Hid (xs.length = j) := Lib.hid hL.out.len
          have HE5 : Hid (xs ++ [s] = xs ++ [s]) := Lib.hid rfl
          have HM5 : Hid (M + 1 ≤ 80000) := Lib.hid (by rw [hMe.out, HXL.out]; omega)
          have HN5 : Hid (M + 1 = (xs ++ [s]).length) := Lib.hid (by rw [HE5.out, List.length_append, ← hMe.out]; rfl)
          have HO5 : Hid (w5.ownsRow w2.heap.size 23 1 v5 (M + 1) ((xs ++ [s]).map Value.string)) := hide (by rw [HE5.out, List.map_append]; exact hown5)
          have hm5 := HM5.out
          clear hown5 hgrow5 HS4 HK4 HS5 HK5 HO4 hsz hL H2 H3 H4 HR hM
          go_wp2_with fail
          go_roundw
          case rel => exact ⟨j + 1, M + 1, xs ++ [s], q2, by go_num, by omega, by omega, HN5, HL5, HO5⟩
          case measure => simp [intOf] <;> omega
      · obtain rfl : j = K := by omega
        have HKE2 := HKE.out
        have HFR : Hid (f.rb vs = some (xs, q)) := Lib.hid (by have h := hL.out; rw [HKE2] at h; exact h.last)
        have HXL : Hid (xs.length = j) := Lib.hid hL.out.len
        have HVL := Lib.hid hL.out.val
        have HK4 := hide (BKeep.trans' (g := g) (Keep.below (unhide HB2) fun _ q => q.1) hL.out.keep)
        have HRS := hide hL.out.rs
        have hrj := HRT.out
        rw [HFR.out] at hrj
        simp only at hrj
        rw [HJR.out xs HXL.out] at hrj
        have HRR := Lib.hid hrj
        have HOI := hide (InC.own hO.out)
        clear hrj HKE2 hL HRT HIH HJR HF0 HKE HPL HXr HO2 HX2
        have hmx : M = j := hMe.out.trans HXL.out
        subst hmx
        have HZZ : Hid (R = if valB 32 (mkM 3 xs) = true then some ([mkM 3 xs], q) else none) := Lib.hid (by rw [HRR.out]; rw [show ∀ z : Int, refJ (34, 0, z) xs = mkM 3 xs from fun z => by unfold refJ; simp])
        have HVZ := Lib.hid (valid_ne (k := 3) (by decide) xs)
        have HCL := hide (rmake_any 3 (by decide) xs V _ cv wr HXL.out.symm (by omega) (small_of HVL.out) (unhide HOI))
        clear HRR
        generalize mkM 3 xs = z at *
        generalize valB 32 z = bv at *
        go_wp2_with fail
        refine (unhide HCL).mono ?_
        rintro e w4 ⟨rfl, hb4⟩
        have HB4 := hide hb4
        clear hb4 HCL HOI
        cases hv : z.toList.isEmpty with
        | true =>
          rw [hv] at HVZ
          obtain rfl : bv = false := HVZ.out
          go_wp2_with fail
          go_ret2
          exact ⟨z, by rw [HZZ.out]; rfl, fun xs q h => (by rw [HZZ.out] at h; cases h), BKeep.below (unhide HK4) (unhide HB4)⟩
        | false =>
          rw [hv] at HVZ
          obtain rfl : bv = true := HVZ.out
          go_wp2_with fail
          go_ret2
          exact ⟨z, by rw [HZZ.out]; rfl, fun xs q h => (by rw [HZZ.out] at h; cases h; exact ⟨rfl, (unhide HRS).below (unhide HB4)⟩), BKeep.below (unhide HK4) (unhide HB4)⟩
  · simp at hp1
    subst hp1
    have hba : Below w.heap.size w (w.alloc (.cells #[.int .i64 35, .int .i64 0, .int .i64 (K : Int)] 27)) := (Below.refl _ _).alloc (Nat.le_refl _) _
    have HB1 := hide hba
    have HX1 := hide (Blk.new w 27 #[.int .i64 35, .int .i64 0, .int .i64 (K : Int)])
    have HS1 := hide ((unhide HS).below hba)
    have hgw : g < w.heap.size := (unhide HS).lt
    have HKC := hide (HKD.out _ (unhide HS1).pat.in_)
    clear hba HKD HS
    obtain ⟨j0, hj0, hjz0, hjz1, hjz2⟩ := info_parts val_info
    go_enter Tryz.func44, Tryz.ntmps44
    go_wp2_with fail
    refine (unhide HKC).mono ?_
    rintro e w2 ⟨X, m, cx, rfl, hm, ho, hb2⟩
    obtain rfl : K = m := (hm.trans HPL.out).symm
    have HO2 := hide ho
    have HB2 := hide ((unhide HB1).trans (hb2.mono (unhide HB1).size))
    have HX2 := hide ((unhide HX1).below hb2 (unhide HX1).lt)
    have HS2 := hide ((unhide HS1).below hb2)
    have HWB : Hid (w.heap.size < w2.heap.size) := Lib.hid (by have := (unhide HX1).lt; have := hb2.size; omega)
    have HG2 : Hid (g < w2.heap.size) := Lib.hid (unhide HS2).lt
    have HBS2 : Hid (B ≤ w2.heap.size) := Lib.hid (unhide HS2).le.2
    have HOB : Hid (∀ q, (Value.slice X K cx).ownBlock = some q → q < w2.heap.size ∧ q ≠ g) := Lib.hid fun q hq => by
      have h1 := ho.lt q hq
      have h2 : w.heap.size < (w.alloc (.cells #[.int .i64 35, .int .i64 0, .int .i64 (K : Int)] 27)).heap.size := by simp
      exact ⟨h1.2, by omega⟩
    have HL2 := hide (HLI0.out _ (unhide HS2))
    clear hm ho hb2 HB1 HX1 HS1 HKC x0 x1 x2 HS2 HLI0
    obtain ⟨bx, hbx⟩ : ∃ bx, bx = w.heap.size := ⟨_, rfl⟩
    rw [← hbx] at HX2 HWB hgw ⊢
    have HBXE := Lib.hid hbx
    have hbg : bx ≠ g := by omega
    clear hbx
    go_wp2_with fail
    go_loopw [10, 12] (fun pv jv wr => ∃ (j M : Nat) (xs q : List ByteArray), jv = .int .i64 j ∧ j ≤ K ∧ M ≤ 80000 ∧ Hid (M = (xs).length) ∧ Hid (LI e' g B p (some ⟨b0, off, none⟩) f vs w2 wr j xs q) ∧ Hid (wr.ownsRow w2.heap.size 23 1 pv M ((xs).map Value.string))) (fun _ jv _ => K - (intOf jv).toNat)
    case atStart => exact ⟨0, 0, [], vs, rfl, by omega, by omega, Lib.hid rfl, HL2, World.ownsRow_nil _ _ _ _⟩
    case round =>
      clear HL2
      obtain ⟨j, M, xs, q, rfl, hj, hM, hMe, hL, hO⟩ := hrel
      obtain ⟨V, cv, rfl⟩ := owns_form hO.out
      have HXr := hide ((unhide HX2).keep hL.out.keep ⟨HWB.out, hbg⟩)
      have hcl0 := (unhide HXr).cell 0
      have hcl1 := (unhide HXr).cell 1
      have hcl2 := (unhide HXr).cell 2
      change wr.cell? ⟨bx, 0, none⟩ = some (.int .i64 35) at hcl0
      change wr.cell? ⟨bx, 1, none⟩ = some (.int .i64 0) at hcl1
      change wr.cell? ⟨bx, 2, none⟩ = some (.int .i64 (K : Int)) at hcl2
      by_cases hlt : j < K
      · obtain ⟨o2, n2, k2, h1, h2, h3, h4, h5⟩ := HIH.out j hlt
        have HOr := owns_keep (unhide HO2) hL.out.keep (fun q hq => HOB.out q hq)
        obtain ⟨bq, oq, hXe, hbq, y0⟩ := at1s (InC.own HOr) (i := j) (u := natV (cu j)) (by rw [List.getElem?_map, h1]; rfl)
        change wr.cell? ⟨bq, oq + j, none⟩ = some (.int .i64 (cu j : Int)) at y0
        subst hXe
        have HC5 := hide (h5 wr w2 j xs q rfl hL.out)
        have H2 := Lib.hid h2
        have H3 := Lib.hid h3
        have H4 := Lib.hid h4
        obtain ⟨r, hr⟩ : ∃ r, r = (F.node o2 n2 k2 .nil).rb q := ⟨_, rfl⟩
        rw [← hr] at HC5
        have HR := Lib.hid hr
        generalize cu j = ck at *
        clear h1 h2 h3 h4 h5 hbq HOr hr hcl0 hcl1 hcl2
        go_wp2_with fail
        refine (unhide HC5).mono ?_
        rintro e w3 ⟨s, rfl, hsome, hk3⟩
        have HK3 := hide (hL.out.keep.trans' hk3)
        have HO3 := hide (owns_keep hO.out hk3 (fun q hq => ⟨(hO.out.lt q hq).2, by have := (hO.out.lt q hq).1; have := HG2.out; omega⟩))
        have HX3 := hide ((unhide HX2).keep (unhide HK3) ⟨HWB.out, hbg⟩)
        have hcl0 := (unhide HX3).cell 0
        have hcl1 := (unhide HX3).cell 1
        change w3.cell? ⟨bx, 0, none⟩ = some (.int .i64 35) at hcl0
        change w3.cell? ⟨bx, 1, none⟩ = some (.int .i64 0) at hcl1
        clear hk3 HC5 hO y0 HX3 HXr
        cases r with
        | none =>
          have HRN : Hid (R = none) := Lib.hid (by rw [HRT.out, hL.out.none H2.out HR.out.symm])
          clear hsome hcl0 hcl1
          simp only [Option.isSome_none]
          go_wp2_with fail
          go_ret2
          exact ⟨⟨#[]⟩, by rw [HRN.out]; rfl, fun xs q h => (by rw [HRN.out] at h; cases h), BKeep.trans' (Keep.below (unhide HB2) fun _ q => q.1) (unhide HK3)⟩
        | some rr =>
          obtain ⟨ys1, q2⟩ := rr
          obtain ⟨rfl, hS3⟩ := hsome ys1 q2 rfl
          have HS3 := hide hS3
          have HSV := Lib.hid ((rb_facts H3.out HR.out.symm).1 s (List.mem_cons_self ..))
          have HSS : Hid (s.size ≤ 281474976710656) := Lib.hid (by have := (tree_val (Nat.le_refl _) HSV.out).2.2; omega)
          clear hsome hS3
          simp only [Option.isSome_some]
          have hba : Below w3.heap.size w3 (w3.alloc (.cells #[.string s] 23)) := (Below.refl _ _).alloc (Nat.le_refl _) _
          have HO4 := hide (owns_below (unhide HO3) hba)
          have HS4 := hide ((unhide HS3).below hba)
          have HK4 := hide (BKeep.below (unhide HK3) hba)
          have hsz : w2.heap.size ≤ (w3.alloc (.cells #[.string s] 23)).heap.size := (unhide HK4).size
          clear hba HS3 HO3 HK3
          go_wp2_with (at_builtin; refine wpList_app _ rfl _ _ 24 rfl w2.heap.size 23 j0 _ 1 16 Tryz.underlying24 hj0 hjz0 hjz1 hjz2 rfl (by decide) _ M _ rfl (unhide HO4) (some ⟨w3.heap.size, 0, none⟩) 1 1 [.string s] rfl rfl (new_in w3 23 #[.string s]) (one_str s) (by unfold maxLen; omega) (by omega) hsz ?_; intro v5 w5 hown5 hgrow5 _)
          have HS5 := hide ((unhide HS4).grown (unhide HO4) HBS2.out hgrow5)
          have HK5 : Hid (BKeep g w2 w5) := hide ((unhide HK4).grown hgrow5 (fun k q => q.1) (fun k hk q => by have := ((unhide HO4).lt k hk).1; omega))
          have HL5 := hide (hL.out.step H2.out H3.out H4.out HR.out.symm (unhide HS5) (unhide HK5))
          have HXL : Hid (xs.length = j) := Lib.hid hL.out.len
          have HE5 : Hid (xs ++ [s] = xs ++ [s]) := Lib.hid rfl
          have HM5 : Hid (M + 1 ≤ 80000) := Lib.hid (by rw [hMe.out, HXL.out]; omega)
          have HN5 : Hid (M + 1 = (xs ++ [s]).length) := Lib.hid (by rw [HE5.out, List.length_append, ← hMe.out]; rfl)
          have HO5 : Hid (w5.ownsRow w2.heap.size 23 1 v5 (M + 1) ((xs ++ [s]).map Value.string)) := hide (by rw [HE5.out, List.map_append]; exact hown5)
          have hm5 := HM5.out
          clear hown5 hgrow5 HS4 HK4 HS5 HK5 HO4 hsz hL H2 H3 H4 HR hM
          go_wp2_with fail
          go_roundw
          case rel => exact ⟨j + 1, M + 1, xs ++ [s], q2, by go_num, by omega, by omega, HN5, HL5, HO5⟩
          case measure => simp [intOf] <;> omega
      · obtain rfl : j = K := by omega
        have HKE2 := HKE.out
        have HFR : Hid (f.rb vs = some (xs, q)) := Lib.hid (by have h := hL.out; rw [HKE2] at h; exact h.last)
        have HXL : Hid (xs.length = j) := Lib.hid hL.out.len
        have HVL := Lib.hid hL.out.val
        have HK4 := hide (BKeep.trans' (g := g) (Keep.below (unhide HB2) fun _ q => q.1) hL.out.keep)
        have HRS := hide hL.out.rs
        have hrj := HRT.out
        rw [HFR.out] at hrj
        simp only at hrj
        rw [HJR.out xs HXL.out] at hrj
        have HRR := Lib.hid hrj
        have HOI := hide (InC.own hO.out)
        clear hrj HKE2 hL HRT HIH HJR HF0 HKE HPL HXr HO2 HX2
        have hmx : M = j := hMe.out.trans HXL.out
        subst hmx
        have HZZ : Hid (R = if valB 32 (mkM 4 xs) = true then some ([mkM 4 xs], q) else none) := Lib.hid (by rw [HRR.out]; rw [show ∀ z : Int, refJ (35, 0, z) xs = mkM 4 xs from fun z => by unfold refJ; simp])
        have HVZ := Lib.hid (valid_ne (k := 4) (by decide) xs)
        have HCL := hide (rmake_any 4 (by decide) xs V _ cv wr HXL.out.symm (by omega) (small_of HVL.out) (unhide HOI))
        clear HRR
        generalize mkM 4 xs = z at *
        generalize valB 32 z = bv at *
        go_wp2_with fail
        refine (unhide HCL).mono ?_
        rintro e w4 ⟨rfl, hb4⟩
        have HB4 := hide hb4
        clear hb4 HCL HOI
        cases hv : z.toList.isEmpty with
        | true =>
          rw [hv] at HVZ
          obtain rfl : bv = false := HVZ.out
          go_wp2_with fail
          go_ret2
          exact ⟨z, by rw [HZZ.out]; rfl, fun xs q h => (by rw [HZZ.out] at h; cases h), BKeep.below (unhide HK4) (unhide HB4)⟩
        | false =>
          rw [hv] at HVZ
          obtain rfl : bv = true := HVZ.out
          go_wp2_with fail
          go_ret2
          exact ⟨z, by rw [HZZ.out]; rfl, fun xs q h => (by rw [HZZ.out] at h; cases h; exact ⟨rfl, (unhide HRS).below (unhide HB4)⟩), BKeep.below (unhide HK4) (unhide HB4)⟩
  · simp at hp1
    obtain ⟨hn0, hnk⟩ := hp1
    have hba : Below w.heap.size w (w.alloc (.cells #[.int .i64 36, .int .i64 num, .int .i64 (K : Int)] 27)) := (Below.refl _ _).alloc (Nat.le_refl _) _
    have HB1 := hide hba
    have HX1 := hide (Blk.new w 27 #[.int .i64 36, .int .i64 num, .int .i64 (K : Int)])
    have HS1 := hide ((unhide HS).below hba)
    have hgw : g < w.heap.size := (unhide HS).lt
    have HKC := hide (HKD.out _ (unhide HS1).pat.in_)
    clear hba HKD HS
    obtain ⟨j0, hj0, hjz0, hjz1, hjz2⟩ := info_parts val_info
    go_enter Tryz.func44, Tryz.ntmps44
    go_wp2_with fail
    refine (unhide HKC).mono ?_
    rintro e w2 ⟨X, m, cx, rfl, hm, ho, hb2⟩
    obtain rfl : K = m := (hm.trans HPL.out).symm
    have HO2 := hide ho
    have HB2 := hide ((unhide HB1).trans (hb2.mono (unhide HB1).size))
    have HX2 := hide ((unhide HX1).below hb2 (unhide HX1).lt)
    have HS2 := hide ((unhide HS1).below hb2)
    have HWB : Hid (w.heap.size < w2.heap.size) := Lib.hid (by have := (unhide HX1).lt; have := hb2.size; omega)
    have HG2 : Hid (g < w2.heap.size) := Lib.hid (unhide HS2).lt
    have HBS2 : Hid (B ≤ w2.heap.size) := Lib.hid (unhide HS2).le.2
    have HOB : Hid (∀ q, (Value.slice X K cx).ownBlock = some q → q < w2.heap.size ∧ q ≠ g) := Lib.hid fun q hq => by
      have h1 := ho.lt q hq
      have h2 : w.heap.size < (w.alloc (.cells #[.int .i64 36, .int .i64 num, .int .i64 (K : Int)] 27)).heap.size := by simp
      exact ⟨h1.2, by omega⟩
    have HL2 := hide (HLI0.out _ (unhide HS2))
    clear hm ho hb2 HB1 HX1 HS1 HKC x0 x1 x2 HS2 HLI0
    obtain ⟨bx, hbx⟩ : ∃ bx, bx = w.heap.size := ⟨_, rfl⟩
    rw [← hbx] at HX2 HWB hgw ⊢
    have HBXE := Lib.hid hbx
    have hbg : bx ≠ g := by omega
    clear hbx
    go_wp2_with fail
    go_loopw [10, 12] (fun pv jv wr => ∃ (j M : Nat) (xs q : List ByteArray), jv = .int .i64 j ∧ j ≤ K ∧ M ≤ 80000 ∧ Hid (M = (catL num.toNat xs).length) ∧ Hid (LI e' g B p (some ⟨b0, off, none⟩) f vs w2 wr j xs q) ∧ Hid (wr.ownsRow w2.heap.size 23 1 pv M ((catL num.toNat xs).map Value.string)) ∧ Hid (num.toNat < xs.length → kindM (xs.getD num.toNat ⟨#[]⟩) = 4)) (fun _ jv _ => K - (intOf jv).toNat)
    case atStart => exact ⟨0, 0, [], vs, rfl, by omega, by omega, Lib.hid rfl, HL2, World.ownsRow_nil _ _ _ _, Lib.hid (fun h => by simp at h)⟩
    case round =>
      clear HL2
      obtain ⟨j, M, xs, q, rfl, hj, hM, hMe, hL, hO, hKD⟩ := hrel
      obtain ⟨V, cv, rfl⟩ := owns_form hO.out
      have HXr := hide ((unhide HX2).keep hL.out.keep ⟨HWB.out, hbg⟩)
      have hcl0 := (unhide HXr).cell 0
      have hcl1 := (unhide HXr).cell 1
      have hcl2 := (unhide HXr).cell 2
      change wr.cell? ⟨bx, 0, none⟩ = some (.int .i64 36) at hcl0
      change wr.cell? ⟨bx, 1, none⟩ = some (.int .i64 num) at hcl1
      change wr.cell? ⟨bx, 2, none⟩ = some (.int .i64 (K : Int)) at hcl2
      by_cases hlt : j < K
      · obtain ⟨o2, n2, k2, h1, h2, h3, h4, h5⟩ := HIH.out j hlt
        have HOr := owns_keep (unhide HO2) hL.out.keep (fun q hq => HOB.out q hq)
        obtain ⟨bq, oq, hXe, hbq, y0⟩ := at1s (InC.own HOr) (i := j) (u := natV (cu j)) (by rw [List.getElem?_map, h1]; rfl)
        change wr.cell? ⟨bq, oq + j, none⟩ = some (.int .i64 (cu j : Int)) at y0
        subst hXe
        have HC5 := hide (h5 wr w2 j xs q rfl hL.out)
        have H2 := Lib.hid h2
        have H3 := Lib.hid h3
        have H4 := Lib.hid h4
        obtain ⟨r, hr⟩ : ∃ r, r = (F.node o2 n2 k2 .nil).rb q := ⟨_, rfl⟩
        rw [← hr] at HC5
        have HR := Lib.hid hr
        generalize cu j = ck at *
        clear h1 h2 h3 h4 h5 hbq HOr hr hcl0 hcl1 hcl2
        go_wp2_with fail
        refine (unhide HC5).mono ?_
        rintro e w3 ⟨s, rfl, hsome, hk3⟩
        have HK3 := hide (hL.out.keep.trans' hk3)
        have HO3 := hide (owns_keep hO.out hk3 (fun q hq => ⟨(hO.out.lt q hq).2, by have := (hO.out.lt q hq).1; have := HG2.out; omega⟩))
        have HX3 := hide ((unhide HX2).keep (unhide HK3) ⟨HWB.out, hbg⟩)
        have hcl0 := (unhide HX3).cell 0
        have hcl1 := (unhide HX3).cell 1
        change w3.cell? ⟨bx, 0, none⟩ = some (.int .i64 36) at hcl0
        change w3.cell? ⟨bx, 1, none⟩ = some (.int .i64 num) at hcl1
        clear hk3 HC5 hO y0 HX3 HXr
        cases r with
        | none =>
          have HRN : Hid (R = none) := Lib.hid (by rw [HRT.out, hL.out.none H2.out HR.out.symm])
          clear hsome hcl0 hcl1
          simp only [Option.isSome_none]
          go_wp2_with fail
          go_ret2
          exact ⟨⟨#[]⟩, by rw [HRN.out]; rfl, fun xs q h => (by rw [HRN.out] at h; cases h), BKeep.trans' (Keep.below (unhide HB2) fun _ q => q.1) (unhide HK3)⟩
        | some rr =>
          obtain ⟨ys1, q2⟩ := rr
          obtain ⟨rfl, hS3⟩ := hsome ys1 q2 rfl
          have HS3 := hide hS3
          have HSV := Lib.hid ((rb_facts H3.out HR.out.symm).1 s (List.mem_cons_self ..))
          have HSS : Hid (s.size ≤ 281474976710656) := Lib.hid (by have := (tree_val (Nat.le_refl _) HSV.out).2.2; omega)
          clear hsome hS3
          simp only [Option.isSome_some]
          by_cases hjn : (j : Int) = num
          · have HJN : Hid (num.toNat = j) := Lib.hid (by omega)
            have gjn : ((j : Int) == num) = true := beq_iff_eq.2 hjn
            have hxl : Hid (xs.length = j) := Lib.hid hL.out.len
            clear hjn
            go_wp2_with fail
            refine (rkind_any s HSS.out _).mono ?_
            rintro e w3b ⟨rfl, hb3⟩
            have hbz := hb3
            by_cases hk4 : kindM s = 4
            · have HK4S := Lib.hid hk4
              rw [hk4]
              have HS3b := hide ((unhide HS3).below hb3)
              have HO3b := hide (owns_below (unhide HO3) hb3)
              have HK3b := hide (BKeep.below (unhide HK3) hb3)
              clear hk4 hb3 hbz HS3 HO3 HK3 hcl0 hcl1
              have HS3 := HS3b
              have HO3 := HO3b
              have HK3 := HK3b
              clear HS3b HO3b HK3b
              go_wp2_with fail
              refine (rpartsO_any s HSS.out _).mono ?_
              rintro e w4 ⟨PB, pc, pn, rfl, hpn2, hpo, hb4⟩
              have HO4 := hide (owns_below (unhide HO3) hb4)
              have HS4 := hide ((unhide HS3).below hb4)
              have HK4 := hide (BKeep.below (unhide HK3) hb4)
              have hsz : w2.heap.size ≤ w4.heap.size := (unhide HK4).size
              have HPN := Lib.hid hpn2
              have HPO := hide (InC.own hpo)
              have hpn3 : pn ≤ 65536 := by have := pt_len s; omega
              clear hb4 hpo hpn2 HS3 HO3 HK3
              go_wp2_with (at_builtin; refine wpList_app _ rfl _ _ 24 rfl w2.heap.size 23 j0 _ 1 16 Tryz.underlying24 hj0 hjz0 hjz1 hjz2 rfl (by decide) _ M _ rfl (unhide HO4) PB pn pc ((pt s).map Value.string) rfl (by rw [List.length_map, Nat.mul_one]; exact HPN.out.symm) (unhide HPO) (str_one (pt s)) (by unfold maxLen; omega) (by omega) hsz ?_; intro v5 w5 hown5 hgrow5 _)
              have HS5 := hide ((unhide HS4).grown (unhide HO4) HBS2.out hgrow5)
              have HK5 : Hid (BKeep g w2 w5) := hide ((unhide HK4).grown hgrow5 (fun k q => q.1) (fun k hk q => by have := ((unhide HO4).lt k hk).1; omega))
              have HL5 := hide (hL.out.step H2.out H3.out H4.out HR.out.symm (unhide HS5) (unhide HK5))
              have HXL : Hid (xs.length = j) := Lib.hid hL.out.len
              have HE5 : Hid (catL num.toNat (xs ++ [s]) = catL num.toNat xs ++ pt s) := Lib.hid (catL_at (by rw [HXL.out]; have := HJN.out; omega))
              have HM5 : Hid (M + pn ≤ 80000) := Lib.hid (by
                have h1 := catL_len num.toNat (xs ++ [s])
                rw [HE5.out] at h1
                rw [List.length_append, List.length_append, HXL.out] at h1
                have h2 := hMe.out
                rw [← HPN.out] at h1
                simp at h1
                omega)
              have HN5 : Hid (M + pn = (catL num.toNat (xs ++ [s])).length) := Lib.hid (by rw [HE5.out, List.length_append, ← hMe.out]; rw [HPN.out])
              have HO5 : Hid (w5.ownsRow w2.heap.size 23 1 v5 (M + pn) ((catL num.toNat (xs ++ [s])).map Value.string)) := hide (by rw [HE5.out, List.map_append]; exact hown5)
              have hm5 := HM5.out
              clear hown5 hgrow5 HS4 HK4 HS5 HK5 HO4 hsz hL H2 H3 H4 HR hM
              go_wp2_with fail
              go_roundw
              case rel => exact ⟨j + 1, M + pn, xs ++ [s], q2, by go_num, by omega, by omega, HN5, HL5, HO5, Lib.hid (fun h => by
                  rw [getD_last (by rw [HXL.out]; have := HJN.out; omega)]
                  exact HK4S.out)⟩
              case measure => simp [intOf] <;> omega
            · have HRN : Hid (R = none) := Lib.hid (by
                rw [HRT.out]
                cases hfr : f.rb vs with
                | none => rfl
                | some x =>
                  obtain ⟨l2, q3⟩ := x
                  have hlen := (rb_facts HOKF.out hfr).2.1
                  have hstep := hfr
                  rw [hL.out.rb, H2.out, rb_one, ← HR.out] at hstep
                  simp only at hstep
                  have hl2 : ∃ ys, l2 = xs ++ ([s] ++ ys) := by
                    cases hd : (f.drop (j + 1)).rb q2 with
                    | none => rw [hd] at hstep; cases hstep
                    | some y => obtain ⟨ys, q4⟩ := y; rw [hd] at hstep; cases hstep; exact ⟨ys, rfl⟩
                  obtain ⟨ys, rfl⟩ := hl2
                  simp only
                  rw [HJR.out _ (hlen.trans HKE.out.symm)]
                  have hz : refJ (36, num, (K : Int)) (xs ++ ([s] ++ ys)) = ⟨#[]⟩ := by
                    show (if kindM ((xs ++ ([s] ++ ys)).getD num.toNat (⟨#[]⟩ : ByteArray)) = 4 then (_ : ByteArray) else (⟨#[]⟩ : ByteArray)) = _
                    rw [getD_mid (by rw [hxl.out]; exact HJN.out.symm), if_neg hk4]
                  rw [hz, empty_bad]
                  rfl)
              have g4 : (kindM s == 4) = false := beq_eq_false_iff_ne.2 hk4
              have HB3 := hide hb3
              clear hk4 hb3 hbz hL H2 H3 H4 HR
              generalize kindM s = ks at *
              go_wp2_with fail
              go_ret2
              exact ⟨⟨#[]⟩, by rw [HRN.out]; rfl, fun xs q h => (by rw [HRN.out] at h; cases h), BKeep.below (BKeep.trans' (g := g) (Keep.below (unhide HB2) fun _ q => q.1) (unhide HK3)) (unhide HB3)⟩
          · have HJN : Hid (j ≠ num.toNat) := Lib.hid (by omega)
            have gjn : ((j : Int) == num) = false := beq_eq_false_iff_ne.2 hjn
            clear hjn
            have hba : Below w3.heap.size w3 (w3.alloc (.cells #[.string s] 23)) := (Below.refl _ _).alloc (Nat.le_refl _) _
            have HO4 := hide (owns_below (unhide HO3) hba)
            have HS4 := hide ((unhide HS3).below hba)
            have HK4 := hide (BKeep.below (unhide HK3) hba)
            have hsz : w2.heap.size ≤ (w3.alloc (.cells #[.string s] 23)).heap.size := (unhide HK4).size
            clear hba HS3 HO3 HK3
            go_wp2_with (at_builtin; refine wpList_app _ rfl _ _ 24 rfl w2.heap.size 23 j0 _ 1 16 Tryz.underlying24 hj0 hjz0 hjz1 hjz2 rfl (by decide) _ M _ rfl (unhide HO4) (some ⟨w3.heap.size, 0, none⟩) 1 1 [.string s] rfl rfl (new_in w3 23 #[.string s]) (one_str s) (by unfold maxLen; omega) (by omega) hsz ?_; intro v5 w5 hown5 hgrow5 _)
            have HS5 := hide ((unhide HS4).grown (unhide HO4) HBS2.out hgrow5)
            have HK5 : Hid (BKeep g w2 w5) := hide ((unhide HK4).grown hgrow5 (fun k q => q.1) (fun k hk q => by have := ((unhide HO4).lt k hk).1; omega))
            have HL5 := hide (hL.out.step H2.out H3.out H4.out HR.out.symm (unhide HS5) (unhide HK5))
            have HXL : Hid (xs.length = j) := Lib.hid hL.out.len
            have HE5 : Hid (catL num.toNat (xs ++ [s]) = catL num.toNat xs ++ [s]) := Lib.hid (catL_snoc (by rw [HXL.out]; have := HJN.out; omega))
            have HM5 : Hid (M + 1 ≤ 80000) := Lib.hid (by
              have h1 := catL_len num.toNat (xs ++ [s])
              rw [HE5.out] at h1
              rw [List.length_append, List.length_append, HXL.out] at h1
              have h2 := hMe.out
              simp at h1
              omega)
            have HN5 : Hid (M + 1 = (catL num.toNat (xs ++ [s])).length) := Lib.hid (by rw [HE5.out, List.length_append, ← hMe.out]; rfl)
            have HO5 : Hid (w5.ownsRow w2.heap.size 23 1 v5 (M + 1) ((catL num.toNat (xs ++ [s])).map Value.string)) := hide (by rw [HE5.out, List.map_append]; exact hown5)
            have hm5 := HM5.out
            clear hown5 hgrow5 HS4 HK4 HS5 HK5 HO4 hsz hL H2 H3 H4 HR hM
            go_wp2_with fail
            go_roundw
            case rel => exact ⟨j + 1, M + 1, xs ++ [s], q2, by go_num, by omega, by omega, HN5, HL5, HO5, Lib.hid (fun h => by
                have h2 := HXL.out
                have h3 := HJN.out
                rw [List.length_append] at h
                simp at h
                have h4 : num.toNat < xs.length := by omega
                have h5 := hKD.out h4
                rw [getD_left h4]
                exact h5)⟩
            case measure => simp [intOf] <;> omega
      · obtain rfl : j = K := by omega
        have HKE2 := HKE.out
        have HFR : Hid (f.rb vs = some (xs, q)) := Lib.hid (by have h := hL.out; rw [HKE2] at h; exact h.last)
        have HXL : Hid (xs.length = j) := Lib.hid hL.out.len
        have HVL := Lib.hid hL.out.val
        have HK4 := hide (BKeep.trans' (g := g) (Keep.below (unhide HB2) fun _ q => q.1) hL.out.keep)
        have HRS := hide hL.out.rs
        have hrj := HRT.out
        rw [HFR.out] at hrj
        simp only at hrj
        rw [HJR.out xs HXL.out] at hrj
        have HRR := Lib.hid hrj
        have HOI := hide (InC.own hO.out)
        clear hrj HKE2 hL HRT HIH HJR HF0 HKE HPL HXr HO2 HX2
        have HZZ : Hid (R = if valB 32 (mkM 4 (catL num.toNat xs)) = true then some ([mkM 4 (catL num.toNat xs)], q) else none) := Lib.hid (by rw [HRR.out]; rw [cat_z hKD.out (by rw [HXL.out]; omega)])
        have HVZ := Lib.hid (valid_ne (k := 4) (by decide) (catL num.toNat xs))
        have HCL := hide (rmake_any 4 (by decide) (catL num.toNat xs) V M cv wr hMe.out (by omega) (small_of (catL_val HVL.out)) (unhide HOI))
        clear HRR
        generalize mkM 4 (catL num.toNat xs) = z at *
        generalize valB 32 z = bv at *
        go_wp2_with fail
        refine (unhide HCL).mono ?_
        rintro e w4 ⟨rfl, hb4⟩
        have HB4 := hide hb4
        clear hb4 HCL HOI
        cases hv : z.toList.isEmpty with
        | true =>
          rw [hv] at HVZ
          obtain rfl : bv = false := HVZ.out
          go_wp2_with fail
          go_ret2
          exact ⟨z, by rw [HZZ.out]; rfl, fun xs q h => (by rw [HZZ.out] at h; cases h), BKeep.below (unhide HK4) (unhide HB4)⟩
        | false =>
          rw [hv] at HVZ
          obtain rfl : bv = true := HVZ.out
          go_wp2_with fail
          go_ret2
          exact ⟨z, by rw [HZZ.out]; rfl, fun xs q h => (by rw [HZZ.out] at h; cases h; exact ⟨rfl, (unhide HRS).below (unhide HB4)⟩), BKeep.below (unhide HK4) (unhide HB4)⟩
  · simp at hp1
    obtain ⟨rfl, hk01⟩ := hp1
    clear hk01
    have hba : Below w.heap.size w (w.alloc (.cells #[.int .i64 37, .int .i64 0, .int .i64 (K : Int)] 27)) := (Below.refl _ _).alloc (Nat.le_refl _) _
    have HB1 := hide hba
    have HX1 := hide (Blk.new w 27 #[.int .i64 37, .int .i64 0, .int .i64 (K : Int)])
    have HS1 := hide ((unhide HS).below hba)
    have hgw : g < w.heap.size := (unhide HS).lt
    have HKC := hide (HKD.out _ (unhide HS1).pat.in_)
    clear hba HKD HS
    obtain ⟨j0, hj0, hjz0, hjz1, hjz2⟩ := info_parts val_info
    go_enter Tryz.func44, Tryz.ntmps44
    go_wp2_with fail
    refine (unhide HKC).mono ?_
    rintro e w2 ⟨X, m, cx, rfl, hm, ho, hb2⟩
    obtain rfl : K = m := (hm.trans HPL.out).symm
    have HO2 := hide ho
    have HB2 := hide ((unhide HB1).trans (hb2.mono (unhide HB1).size))
    have HX2 := hide ((unhide HX1).below hb2 (unhide HX1).lt)
    have HS2 := hide ((unhide HS1).below hb2)
    have HWB : Hid (w.heap.size < w2.heap.size) := Lib.hid (by have := (unhide HX1).lt; have := hb2.size; omega)
    have HG2 : Hid (g < w2.heap.size) := Lib.hid (unhide HS2).lt
    have HBS2 : Hid (B ≤ w2.heap.size) := Lib.hid (unhide HS2).le.2
    have HOB : Hid (∀ q, (Value.slice X K cx).ownBlock = some q → q < w2.heap.size ∧ q ≠ g) := Lib.hid fun q hq => by
      have h1 := ho.lt q hq
      have h2 : w.heap.size < (w.alloc (.cells #[.int .i64 37, .int .i64 0, .int .i64 (K : Int)] 27)).heap.size := by simp
      exact ⟨h1.2, by omega⟩
    have HL2 := hide (HLI0.out _ (unhide HS2))
    clear hm ho hb2 HB1 HX1 HS1 HKC x0 x1 x2 HS2 HLI0
    obtain ⟨bx, hbx⟩ : ∃ bx, bx = w.heap.size := ⟨_, rfl⟩
    rw [← hbx] at HX2 HWB hgw ⊢
    have HBXE := Lib.hid hbx
    have hbg : bx ≠ g := by omega
    clear hbx
    go_wp2_with fail
    go_loopw [10, 12] (fun pv jv wr => ∃ (j M : Nat) (xs q : List ByteArray), jv = .int .i64 j ∧ j ≤ K ∧ M ≤ 80000 ∧ Hid (M = (xs).length) ∧ Hid (LI e' g B p (some ⟨b0, off, none⟩) f vs w2 wr j xs q) ∧ Hid (wr.ownsRow w2.heap.size 23 1 pv M ((xs).map Value.string))) (fun _ jv _ => K - (intOf jv).toNat)
    case atStart => exact ⟨0, 0, [], vs, rfl, by omega, by omega, Lib.hid rfl, HL2, World.ownsRow_nil _ _ _ _⟩
    case round =>
      clear HL2
      obtain ⟨j, M, xs, q, rfl, hj, hM, hMe, hL, hO⟩ := hrel
      obtain ⟨V, cv, rfl⟩ := owns_form hO.out
      have HXr := hide ((unhide HX2).keep hL.out.keep ⟨HWB.out, hbg⟩)
      have hcl0 := (unhide HXr).cell 0
      have hcl1 := (unhide HXr).cell 1
      have hcl2 := (unhide HXr).cell 2
      change wr.cell? ⟨bx, 0, none⟩ = some (.int .i64 37) at hcl0
      change wr.cell? ⟨bx, 1, none⟩ = some (.int .i64 0) at hcl1
      change wr.cell? ⟨bx, 2, none⟩ = some (.int .i64 (K : Int)) at hcl2
      by_cases hlt : j < K
      · obtain ⟨o2, n2, k2, h1, h2, h3, h4, h5⟩ := HIH.out j hlt
        have HOr := owns_keep (unhide HO2) hL.out.keep (fun q hq => HOB.out q hq)
        obtain ⟨bq, oq, hXe, hbq, y0⟩ := at1s (InC.own HOr) (i := j) (u := natV (cu j)) (by rw [List.getElem?_map, h1]; rfl)
        change wr.cell? ⟨bq, oq + j, none⟩ = some (.int .i64 (cu j : Int)) at y0
        subst hXe
        have HC5 := hide (h5 wr w2 j xs q rfl hL.out)
        have H2 := Lib.hid h2
        have H3 := Lib.hid h3
        have H4 := Lib.hid h4
        obtain ⟨r, hr⟩ : ∃ r, r = (F.node o2 n2 k2 .nil).rb q := ⟨_, rfl⟩
        rw [← hr] at HC5
        have HR := Lib.hid hr
        generalize cu j = ck at *
        clear h1 h2 h3 h4 h5 hbq HOr hr hcl0 hcl1 hcl2
        go_wp2_with fail
        refine (unhide HC5).mono ?_
        rintro e w3 ⟨s, rfl, hsome, hk3⟩
        have HK3 := hide (hL.out.keep.trans' hk3)
        have HO3 := hide (owns_keep hO.out hk3 (fun q hq => ⟨(hO.out.lt q hq).2, by have := (hO.out.lt q hq).1; have := HG2.out; omega⟩))
        have HX3 := hide ((unhide HX2).keep (unhide HK3) ⟨HWB.out, hbg⟩)
        have hcl0 := (unhide HX3).cell 0
        have hcl1 := (unhide HX3).cell 1
        change w3.cell? ⟨bx, 0, none⟩ = some (.int .i64 37) at hcl0
        change w3.cell? ⟨bx, 1, none⟩ = some (.int .i64 0) at hcl1
        clear hk3 HC5 hO y0 HX3 HXr
        cases r with
        | none =>
          have HRN : Hid (R = none) := Lib.hid (by rw [HRT.out, hL.out.none H2.out HR.out.symm])
          clear hsome hcl0 hcl1
          simp only [Option.isSome_none]
          go_wp2_with fail
          go_ret2
          exact ⟨⟨#[]⟩, by rw [HRN.out]; rfl, fun xs q h => (by rw [HRN.out] at h; cases h), BKeep.trans' (Keep.below (unhide HB2) fun _ q => q.1) (unhide HK3)⟩
        | some rr =>
          obtain ⟨ys1, q2⟩ := rr
          obtain ⟨rfl, hS3⟩ := hsome ys1 q2 rfl
          have HS3 := hide hS3
          have HSV := Lib.hid ((rb_facts H3.out HR.out.symm).1 s (List.mem_cons_self ..))
          have HSS : Hid (s.size ≤ 281474976710656) := Lib.hid (by have := (tree_val (Nat.le_refl _) HSV.out).2.2; omega)
          clear hsome hS3
          simp only [Option.isSome_some]
          have hba : Below w3.heap.size w3 (w3.alloc (.cells #[.string s] 23)) := (Below.refl _ _).alloc (Nat.le_refl _) _
          have HO4 := hide (owns_below (unhide HO3) hba)
          have HS4 := hide ((unhide HS3).below hba)
          have HK4 := hide (BKeep.below (unhide HK3) hba)
          have hsz : w2.heap.size ≤ (w3.alloc (.cells #[.string s] 23)).heap.size := (unhide HK4).size
          clear hba HS3 HO3 HK3
          go_wp2_with (at_builtin; refine wpList_app _ rfl _ _ 24 rfl w2.heap.size 23 j0 _ 1 16 Tryz.underlying24 hj0 hjz0 hjz1 hjz2 rfl (by decide) _ M _ rfl (unhide HO4) (some ⟨w3.heap.size, 0, none⟩) 1 1 [.string s] rfl rfl (new_in w3 23 #[.string s]) (one_str s) (by unfold maxLen; omega) (by omega) hsz ?_; intro v5 w5 hown5 hgrow5 _)
          have HS5 := hide ((unhide HS4).grown (unhide HO4) HBS2.out hgrow5)
          have HK5 : Hid (BKeep g w2 w5) := hide ((unhide HK4).grown hgrow5 (fun k q => q.1) (fun k hk q => by have := ((unhide HO4).lt k hk).1; omega))
          have HL5 := hide (hL.out.step H2.out H3.out H4.out HR.out.symm (unhide HS5) (unhide HK5))
          have HXL : Hid (xs.length = j) := Lib.hid hL.out.len
          have HE5 : Hid (xs ++ [s] = xs ++ [s]) := Lib.hid rfl
          have HM5 : Hid (M + 1 ≤ 80000) := Lib.hid (by rw [hMe.out, HXL.out]; omega)
          have HN5 : Hid (M + 1 = (xs ++ [s]).length) := Lib.hid (by rw [HE5.out, List.length_append, ← hMe.out]; rfl)
          have HO5 : Hid (w5.ownsRow w2.heap.size 23 1 v5 (M + 1) ((xs ++ [s]).map Value.string)) := hide (by rw [HE5.out, List.map_append]; exact hown5)
          have hm5 := HM5.out
          clear hown5 hgrow5 HS4 HK4 HS5 HK5 HO4 hsz hL H2 H3 H4 HR hM
          go_wp2_with fail
          go_roundw
          case rel => exact ⟨j + 1, M + 1, xs ++ [s], q2, by go_num, by omega, by omega, HN5, HL5, HO5⟩
          case measure => simp [intOf] <;> omega
      · obtain rfl : j = K := by omega
        have HKE2 := HKE.out
        have HFR : Hid (f.rb vs = some (xs, q)) := Lib.hid (by have h := hL.out; rw [HKE2] at h; exact h.last)
        have HXL : Hid (xs.length = j) := Lib.hid hL.out.len
        have HVL := Lib.hid hL.out.val
        have HK4 := hide (BKeep.trans' (g := g) (Keep.below (unhide HB2) fun _ q => q.1) hL.out.keep)
        have HRS := hide hL.out.rs
        have hrj := HRT.out
        rw [HFR.out] at hrj
        simp only at hrj
        rw [HJR.out xs HXL.out] at hrj
        have HRR := Lib.hid hrj
        have HOI := hide (InC.own hO.out)
        clear hrj HKE2 hL HRT HIH HJR HF0 HKE HPL HXr HO2 HX2
        have hmx : M = j := hMe.out.trans HXL.out
        subst hmx
        have HZZ : Hid (R = if valB 32 (mkM 5 (sortM xs)) = true then some ([mkM 5 (sortM xs)], q) else none) := Lib.hid (by rw [HRR.out]; rw [show ∀ z : Int, refJ (37, 0, z) xs = mkM 5 (sortM xs) from fun z => by unfold refJ; simp])
        have HVZ := Lib.hid (valid_ne (k := 5) (by decide) (sortM xs))
        have HCL := hide (rset_any xs V _ cv wr HXL.out.symm (by omega) (small_of HVL.out) (unhide HOI))
        clear HRR
        generalize mkM 5 (sortM xs) = z at *
        generalize valB 32 z = bv at *
        go_wp2_with fail
        refine (unhide HCL).mono ?_
        rintro e w4 ⟨rfl, hb4⟩
        have HB4 := hide hb4
        clear hb4 HCL HOI
        cases hv : z.toList.isEmpty with
        | true =>
          rw [hv] at HVZ
          obtain rfl : bv = false := HVZ.out
          go_wp2_with fail
          go_ret2
          exact ⟨z, by rw [HZZ.out]; rfl, fun xs q h => (by rw [HZZ.out] at h; cases h), BKeep.below (unhide HK4) (unhide HB4)⟩
        | false =>
          rw [hv] at HVZ
          obtain rfl : bv = true := HVZ.out
          go_wp2_with fail
          go_ret2
          exact ⟨z, by rw [HZZ.out]; rfl, fun xs q h => (by rw [HZZ.out] at h; cases h; exact ⟨rfl, (unhide HRS).below (unhide HB4)⟩), BKeep.below (unhide HK4) (unhide HB4)⟩
  · have hba : Below w.heap.size w (w.alloc (.cells #[.int .i64 38, .int .i64 num, .int .i64 (K : Int)] 27)) := (Below.refl _ _).alloc (Nat.le_refl _) _
    have HB1 := hide hba
    have HX1 := hide (Blk.new w 27 #[.int .i64 38, .int .i64 num, .int .i64 (K : Int)])
    have HS1 := hide ((unhide HS).below hba)
    have hgw : g < w.heap.size := (unhide HS).lt
    have HKC := hide (HKD.out _ (unhide HS1).pat.in_)
    clear hba HKD HS
    obtain ⟨j0, hj0, hjz0, hjz1, hjz2⟩ := info_parts val_info
    go_enter Tryz.func44, Tryz.ntmps44
    go_wp2_with fail
    refine (unhide HKC).mono ?_
    rintro e w2 ⟨X, m, cx, rfl, hm, ho, hb2⟩
    obtain rfl : K = m := (hm.trans HPL.out).symm
    have HO2 := hide ho
    have HB2 := hide ((unhide HB1).trans (hb2.mono (unhide HB1).size))
    have HX2 := hide ((unhide HX1).below hb2 (unhide HX1).lt)
    have HS2 := hide ((unhide HS1).below hb2)
    have HWB : Hid (w.heap.size < w2.heap.size) := Lib.hid (by have := (unhide HX1).lt; have := hb2.size; omega)
    have HG2 : Hid (g < w2.heap.size) := Lib.hid (unhide HS2).lt
    have HBS2 : Hid (B ≤ w2.heap.size) := Lib.hid (unhide HS2).le.2
    have HOB : Hid (∀ q, (Value.slice X K cx).ownBlock = some q → q < w2.heap.size ∧ q ≠ g) := Lib.hid fun q hq => by
      have h1 := ho.lt q hq
      have h2 : w.heap.size < (w.alloc (.cells #[.int .i64 38, .int .i64 num, .int .i64 (K : Int)] 27)).heap.size := by simp
      exact ⟨h1.2, by omega⟩
    have HL2 := hide (HLI0.out _ (unhide HS2))
    clear hm ho hb2 HB1 HX1 HS1 HKC x0 x1 x2 HS2 HLI0
    obtain ⟨bx, hbx⟩ : ∃ bx, bx = w.heap.size := ⟨_, rfl⟩
    rw [← hbx] at HX2 HWB hgw ⊢
    have HBXE := Lib.hid hbx
    have hbg : bx ≠ g := by omega
    clear hbx
    go_wp2_with fail
    go_loopw [10, 12] (fun pv jv wr => ∃ (j M : Nat) (xs q : List ByteArray), jv = .int .i64 j ∧ j ≤ K ∧ M ≤ 80000 ∧ Hid (M = (xs).length) ∧ Hid (LI e' g B p (some ⟨b0, off, none⟩) f vs w2 wr j xs q) ∧ Hid (wr.ownsRow w2.heap.size 23 1 pv M ((xs).map Value.string))) (fun _ jv _ => K - (intOf jv).toNat)
    case atStart => exact ⟨0, 0, [], vs, rfl, by omega, by omega, Lib.hid rfl, HL2, World.ownsRow_nil _ _ _ _⟩
    case round =>
      clear HL2
      obtain ⟨j, M, xs, q, rfl, hj, hM, hMe, hL, hO⟩ := hrel
      obtain ⟨V, cv, rfl⟩ := owns_form hO.out
      have HXr := hide ((unhide HX2).keep hL.out.keep ⟨HWB.out, hbg⟩)
      have hcl0 := (unhide HXr).cell 0
      have hcl1 := (unhide HXr).cell 1
      have hcl2 := (unhide HXr).cell 2
      change wr.cell? ⟨bx, 0, none⟩ = some (.int .i64 38) at hcl0
      change wr.cell? ⟨bx, 1, none⟩ = some (.int .i64 num) at hcl1
      change wr.cell? ⟨bx, 2, none⟩ = some (.int .i64 (K : Int)) at hcl2
      by_cases hlt : j < K
      · obtain ⟨o2, n2, k2, h1, h2, h3, h4, h5⟩ := HIH.out j hlt
        have HOr := owns_keep (unhide HO2) hL.out.keep (fun q hq => HOB.out q hq)
        obtain ⟨bq, oq, hXe, hbq, y0⟩ := at1s (InC.own HOr) (i := j) (u := natV (cu j)) (by rw [List.getElem?_map, h1]; rfl)
        change wr.cell? ⟨bq, oq + j, none⟩ = some (.int .i64 (cu j : Int)) at y0
        subst hXe
        have HC5 := hide (h5 wr w2 j xs q rfl hL.out)
        have H2 := Lib.hid h2
        have H3 := Lib.hid h3
        have H4 := Lib.hid h4
        obtain ⟨r, hr⟩ : ∃ r, r = (F.node o2 n2 k2 .nil).rb q := ⟨_, rfl⟩
        rw [← hr] at HC5
        have HR := Lib.hid hr
        generalize cu j = ck at *
        clear h1 h2 h3 h4 h5 hbq HOr hr hcl0 hcl1 hcl2
        go_wp2_with fail
        refine (unhide HC5).mono ?_
        rintro e w3 ⟨s, rfl, hsome, hk3⟩
        have HK3 := hide (hL.out.keep.trans' hk3)
        have HO3 := hide (owns_keep hO.out hk3 (fun q hq => ⟨(hO.out.lt q hq).2, by have := (hO.out.lt q hq).1; have := HG2.out; omega⟩))
        have HX3 := hide ((unhide HX2).keep (unhide HK3) ⟨HWB.out, hbg⟩)
        have hcl0 := (unhide HX3).cell 0
        have hcl1 := (unhide HX3).cell 1
        change w3.cell? ⟨bx, 0, none⟩ = some (.int .i64 38) at hcl0
        change w3.cell? ⟨bx, 1, none⟩ = some (.int .i64 num) at hcl1
        clear hk3 HC5 hO y0 HX3 HXr
        cases r with
        | none =>
          have HRN : Hid (R = none) := Lib.hid (by rw [HRT.out, hL.out.none H2.out HR.out.symm])
          clear hsome hcl0 hcl1
          simp only [Option.isSome_none]
          go_wp2_with fail
          go_ret2
          exact ⟨⟨#[]⟩, by rw [HRN.out]; rfl, fun xs q h => (by rw [HRN.out] at h; cases h), BKeep.trans' (Keep.below (unhide HB2) fun _ q => q.1) (unhide HK3)⟩
        | some rr =>
          obtain ⟨ys1, q2⟩ := rr
          obtain ⟨rfl, hS3⟩ := hsome ys1 q2 rfl
          have HS3 := hide hS3
          have HSV := Lib.hid ((rb_facts H3.out HR.out.symm).1 s (List.mem_cons_self ..))
          have HSS : Hid (s.size ≤ 281474976710656) := Lib.hid (by have := (tree_val (Nat.le_refl _) HSV.out).2.2; omega)
          clear hsome hS3
          simp only [Option.isSome_some]
          have hba : Below w3.heap.size w3 (w3.alloc (.cells #[.string s] 23)) := (Below.refl _ _).alloc (Nat.le_refl _) _
          have HO4 := hide (owns_below (unhide HO3) hba)
          have HS4 := hide ((unhide HS3).below hba)
          have HK4 := hide (BKeep.below (unhide HK3) hba)
          have hsz : w2.heap.size ≤ (w3.alloc (.cells #[.string s] 23)).heap.size := (unhide HK4).size
          clear hba HS3 HO3 HK3
          go_wp2_with (at_builtin; refine wpList_app _ rfl _ _ 24 rfl w2.heap.size 23 j0 _ 1 16 Tryz.underlying24 hj0 hjz0 hjz1 hjz2 rfl (by decide) _ M _ rfl (unhide HO4) (some ⟨w3.heap.size, 0, none⟩) 1 1 [.string s] rfl rfl (new_in w3 23 #[.string s]) (one_str s) (by unfold maxLen; omega) (by omega) hsz ?_; intro v5 w5 hown5 hgrow5 _)
          have HS5 := hide ((unhide HS4).grown (unhide HO4) HBS2.out hgrow5)
          have HK5 : Hid (BKeep g w2 w5) := hide ((unhide HK4).grown hgrow5 (fun k q => q.1) (fun k hk q => by have := ((unhide HO4).lt k hk).1; omega))
          have HL5 := hide (hL.out.step H2.out H3.out H4.out HR.out.symm (unhide HS5) (unhide HK5))
          have HXL : Hid (xs.length = j) := Lib.hid hL.out.len
          have HE5 : Hid (xs ++ [s] = xs ++ [s]) := Lib.hid rfl
          have HM5 : Hid (M + 1 ≤ 80000) := Lib.hid (by rw [hMe.out, HXL.out]; omega)
          have HN5 : Hid (M + 1 = (xs ++ [s]).length) := Lib.hid (by rw [HE5.out, List.length_append, ← hMe.out]; rfl)
          have HO5 : Hid (w5.ownsRow w2.heap.size 23 1 v5 (M + 1) ((xs ++ [s]).map Value.string)) := hide (by rw [HE5.out, List.map_append]; exact hown5)
          have hm5 := HM5.out
          clear hown5 hgrow5 HS4 HK4 HS5 HK5 HO4 hsz hL H2 H3 H4 HR hM
          go_wp2_with fail
          go_roundw
          case rel => exact ⟨j + 1, M + 1, xs ++ [s], q2, by go_num, by omega, by omega, HN5, HL5, HO5⟩
          case measure => simp [intOf] <;> omega
      · obtain rfl : j = K := by omega
        have HKE2 := HKE.out
        have HFR : Hid (f.rb vs = some (xs, q)) := Lib.hid (by have h := hL.out; rw [HKE2] at h; exact h.last)
        have HXL : Hid (xs.length = j) := Lib.hid hL.out.len
        have HVL := Lib.hid hL.out.val
        have HK4 := hide (BKeep.trans' (g := g) (Keep.below (unhide HB2) fun _ q => q.1) hL.out.keep)
        have HRS := hide hL.out.rs
        have hrj := HRT.out
        rw [HFR.out] at hrj
        simp only at hrj
        rw [HJR.out xs HXL.out] at hrj
        have HRR := Lib.hid hrj
        have HOI := hide (InC.own hO.out)
        clear hrj HKE2 hL HRT HIH HJR HF0 HKE HPL HXr HO2 HX2
        have hmx : M = j := hMe.out.trans HXL.out
        subst hmx
        by_cases hneg : num < 0
        · have HRN : Hid (R = none) := Lib.hid (by rw [HRR.out, dot_z, bad_name (.inl hneg), empty_bad]; rfl)
          clear HRR HOI
          go_wp2_with fail
          go_ret2
          exact ⟨⟨#[]⟩, by rw [HRN.out]; rfl, fun xs q h => (by rw [HRN.out] at h; cases h), unhide HK4⟩
        by_cases hbig : 65535 < num
        · have HRN : Hid (R = none) := Lib.hid (by rw [HRR.out, dot_z, bad_name (.inr hbig), empty_bad]; rfl)
          clear HRR HOI
          go_wp2_with fail
          go_ret2
          exact ⟨⟨#[]⟩, by rw [HRN.out]; rfl, fun xs q h => (by rw [HRN.out] at h; cases h), unhide HK4⟩
        have HZZ : Hid (R = if valB 32 (mkM 7 (nameI num :: xs)) = true then some ([mkM 7 (nameI num :: xs)], q) else none) := Lib.hid (by rw [HRR.out]; rw [dot_z])
        have HVZ := Lib.hid (valid_ne (k := 7) (by decide) (nameI num :: xs))
        have HCL := hide (rdot_any num xs V _ cv wr HXL.out.symm (by omega) (small_of HVL.out) (unhide HOI))
        clear HRR
        generalize mkM 7 (nameI num :: xs) = z at *
        generalize valB 32 z = bv at *
        go_wp2_with fail
        refine (unhide HCL).mono ?_
        rintro e w4 ⟨rfl, hb4⟩
        have HB4 := hide hb4
        clear hb4 HCL HOI
        cases hv : z.toList.isEmpty with
        | true =>
          rw [hv] at HVZ
          obtain rfl : bv = false := HVZ.out
          go_wp2_with fail
          go_ret2
          exact ⟨z, by rw [HZZ.out]; rfl, fun xs q h => (by rw [HZZ.out] at h; cases h), BKeep.below (unhide HK4) (unhide HB4)⟩
        | false =>
          rw [hv] at HVZ
          obtain rfl : bv = true := HVZ.out
          go_wp2_with fail
          go_ret2
          exact ⟨z, by rw [HZZ.out]; rfl, fun xs q h => (by rw [HZZ.out] at h; cases h; exact ⟨rfl, (unhide HRS).below (unhide HB4)⟩), BKeep.below (unhide HK4) (unhide HB4)⟩
  · simp at hp1
    obtain ⟨rfl, hk2⟩ := hp1
    obtain rfl : K = 2 := by omega
    have hba : Below w.heap.size w (w.alloc (.cells #[.int .i64 39, .int .i64 0, .int .i64 2] 27)) := (Below.refl _ _).alloc (Nat.le_refl _) _
    have HRN : Hid (R = none) := Lib.hid (by
      rw [HRT.out]
      cases f.rb vs with
      | none => rfl
      | some x =>
        obtain ⟨l, q⟩ := x
        have h : joinR (39, 0, 2) l = ⟨#[]⟩ := by unfold joinR; simp
        simp only
        first
          | rw [h, empty_bad]; rfl
          | (simp [h, empty_bad]; done))
    clear HRT HKD HIH HJR HF0 HLI0 HKE HPL
    go_enter Tryz.func44, Tryz.ntmps44
    go_wp2_with fail
    go_ret2
    exact ⟨⟨#[]⟩, by rw [HRN.out]; rfl, fun xs q h => (by rw [HRN.out] at h; cases h), Keep.below hba fun _ q => q.1⟩
  · simp at hp1
    obtain ⟨rfl, hk2⟩ := hp1
    obtain rfl : K = 2 := by omega
    have hba : Below w.heap.size w (w.alloc (.cells #[.int .i64 40, .int .i64 0, .int .i64 2] 27)) := (Below.refl _ _).alloc (Nat.le_refl _) _
    have HRN : Hid (R = none) := Lib.hid (by
      rw [HRT.out]
      cases f.rb vs with
      | none => rfl
      | some x =>
        obtain ⟨l, q⟩ := x
        have h : joinR (40, 0, 2) l = ⟨#[]⟩ := by unfold joinR; simp
        simp only
        first
          | rw [h, empty_bad]; rfl
          | (simp [h, empty_bad]; done))
    clear HRT HKD HIH HJR HF0 HLI0 HKE HPL
    go_enter Tryz.func44, Tryz.ntmps44
    go_wp2_with fail
    go_ret2
    exact ⟨⟨#[]⟩, by rw [HRN.out]; rfl, fun xs q h => (by rw [HRN.out] at h; cases h), Keep.below hba fun _ q => q.1⟩
theorem bl_all : ∀ e, BlCon e := by
  intro e
  induction e with
  | zero =>
    intro o num f p pre post pA n c g B vs w hok
    obtain ⟨e', he', _⟩ := F.ok_node hok
    omega
  | succ e ih => exact bl_up e ih
set_option linter.unusedSimpArgs false in
set_option maxRecDepth 100000 in
set_option maxHeartbeats 6400000 in
theorem rvars_any (p : List Cd) (A : Option Addr) (n c : Nat) (w : World) (hn : n = p.length) (hn2 : n ≤ 4611686018427387904) (hA : InC w A (p.flatMap cdCells)) :
    Calls Tryz.prog 10 #[.slice A n c] w fun e w' => e = .returned (.int .i64 (varsN p : Nat)) ∧ Below w.heap.size w w' := by
  have HA := hide hA
  have HN := Lib.hid hn
  clear hA hn
  go_enter Tryz.func10, Tryz.ntmps10
  go_wp2_with fail
  go_loopw [3, 4] (fun nv iv wr => ∃ i : Nat, iv = .int .i64 i ∧ i ≤ n ∧ nv = .int .i64 (varsN (p.take i) : Nat) ∧ Hid (Below w.heap.size w wr)) (fun _ iv _ => n - (intOf iv).toNat)
  case atStart => exact ⟨0, rfl, by omega, rfl, Below.refl _ _⟩
  case round =>
    obtain ⟨i, rfl, hi, rfl, hB⟩ := hrel
    by_cases hlt : i < n
    · obtain ⟨t, ht⟩ : ∃ t, p[i]? = some t := ⟨_, List.getElem?_eq_getElem (by have := HN.out; omega)⟩
      have hst := varsN_take ht
      have hle := varsN_le p i
      obtain ⟨b, off, hAe, hb, x0, x1, x2⟩ := cd_at ((unhide HA).below hB.out) ht
      subst hAe
      obtain ⟨k, num, kids⟩ := t
      dsimp only at x0 x1 x2 hst
      clear ht
      by_cases h30 : k = 30
      · subst h30
        rw [if_pos rfl] at hst
        have HST := Lib.hid hst
        clear hst
        generalize varsN (p.take i) = q at *
        go_wp2_with fail
        go_roundw
        case rel => exact ⟨i + 1, by go_num, by omega, by rw [HST.out]; go_num, hB⟩
        case measure => simp [intOf]; omega
      · have g30 : (k == 30) = false := beq_eq_false_iff_ne.2 h30
        rw [if_neg h30, Nat.add_zero] at hst
        have HST := Lib.hid hst
        clear hst h30
        generalize varsN (p.take i) = q at *
        go_wp2_with fail
        go_roundw
        case rel => exact ⟨i + 1, by go_num, by omega, by rw [HST.out]; rfl, hB⟩
        case measure => simp [intOf]; omega
    · obtain rfl : i = n := by omega
      have HE : Hid (p.take i = p) := Lib.hid (List.take_of_length_le (Nat.le_of_eq HN.out.symm))
      rw [HE.out]
      go_wp2_with fail
      go_ret
      exact ⟨rfl, hB.out⟩
theorem OutC.of {w : World} {A : Option Addr} {xs : List Value} (h : InC w A xs) (o : Obj) : OutC (w.alloc o) w.heap.size (w.heap.size + 1) A xs := by
  rcases h with q | ⟨b, off, e, q1, q2⟩
  · exact .inl q
  · have hb : Below w.heap.size w (w.alloc o) := (Below.refl _ _).alloc (Nat.le_refl _) _
    exact .inr ⟨b, off, e, ⟨by omega, by simp, by omega⟩, fun i u hu => (hb.cell (p := ⟨b, off + i, none⟩) q1).trans (q2 i u hu)⟩
set_option linter.unusedSimpArgs false in
set_option maxRecDepth 100000 in
set_option maxHeartbeats 6400000 in
theorem rbuild_t (t : F) (h1 : ∃ o n k, t = .node o n k .nil) (h : t.ok 64 = true) (vs : List ByteArray) (A L : Option Addr) (n c m d : Nat) (w : World) (hn : n = t.fl.length) (hn8 : n ≤ 8192) (hA : InC w A (t.fl.flatMap cdCells)) (hm : m = vs.length) (hm8 : m ≤ 8192) (hv : vs.length = t.vars) (hs : ∀ s ∈ vs, s.size ≤ 281474976710656) (hL : InC w L (vs.map Value.string)) :
    Calls Tryz.prog 16 #[.slice A n c, .slice L m d] w fun e w' => e = .returned (.tuple #[.string ((refB t vs).getD ⟨#[]⟩), .bool (refB t vs).isSome]) ∧ Below w.heap.size w w' := by
  have HPT := Lib.hid (fun W (hW : InC W A (t.fl.flatMap cdCells)) => rpattern_t t h1 h A n c W hn hn8 hW)
  have HVR := Lib.hid (fun W (hW : InC W A (t.fl.flatMap cdCells)) => rvars_any t.fl A n c W hn (by omega) hW)
  rw [F.vars_fl, ← hv, ← hm] at HVR
  have HBL : Hid (∀ (g B : Nat) (W : World), RS g B t.fl A W vs → Calls Tryz.prog 44 #[.slice A n c, .int .i64 0, .pointer (some ⟨g, 0, none⟩)] W (BlPost g B t.fl A (t.rb vs) W)) := Lib.hid fun g B W hS => by
    obtain ⟨o, num, k, rfl⟩ := h1
    have q := bl_all 64 o num k (F.node o num k .nil).fl [] [] A n c g B vs W h (by simp) hn hn8 (by omega) (by omega) hs hS
    exact q
  have HRF : Hid (refB t vs = match t.rb vs with
    | some (v :: _, _) => some v
    | _ => none) := Lib.hid rfl
  obtain ⟨j0, hj0, hjz0, hjz1, hjz2⟩ := info_parts val_info
  obtain ⟨R, hR⟩ : ∃ R, R = refB t vs := ⟨_, rfl⟩
  rw [← hR] at HRF ⊢
  have HA := hide hA
  have HL := hide hL
  have HM := Lib.hid hm
  clear h h1 hn hA hL hs hv hR hm
  generalize t.fl = p at *
  generalize t.rb vs = r at *
  go_enter Tryz.func16, Tryz.ntmps16
  go_wp2_with fail
  refine (HPT.out _ (unhide HA)).mono ?_
  rintro e w1 ⟨rfl, hb1⟩
  have HB1 := hide hb1
  have HA1 := hide ((unhide HA).below hb1)
  have HL1 := hide ((unhide HL).below hb1)
  clear hb1 HPT HA HL
  go_wp2_with fail
  refine (HVR.out _ (unhide HA1)).mono ?_
  rintro e w2 ⟨rfl, hb2⟩
  have HB2 := hide ((unhide HB1).trans (hb2.mono (unhide HB1).size))
  have HA2 := hide ((unhide HA1).below hb2)
  have HL2 := hide ((unhide HL1).below hb2)
  clear hb2 HVR HA1 HL1 HB1
  go_wp2_with (at_builtin; refine wpList_app _ rfl _ _ 24 rfl w2.heap.size 23 j0 _ 1 16 Tryz.underlying24 hj0 hjz0 hjz1 hjz2 rfl (by decide) (.slice none 0 0) 0 [] rfl (World.ownsRow_nil _ _ _ _) L m d (vs.map Value.string) rfl (by rw [List.length_map, Nat.mul_one]; exact HM.out.symm) (unhide HL2) (str_one vs) (by unfold maxLen; omega) (by omega) (Nat.le_refl _) ?_; intro v3 w3 hown3 hgrow3 _; rw [List.nil_append, Nat.zero_add] at hown3; obtain ⟨V, cv, rfl⟩ := owns_form hown3)
  have hb3 := below_app (Below.refl w2.heap.size w2) (World.ownsRow_nil w2 w2.heap.size 23 1) hgrow3
  have HO3 := hide hown3
  have HA3 := hide ((unhide HA2).below hb3)
  have HB3 := hide ((unhide HB2).trans (hb3.mono (unhide HB2).size))
  clear hb3 hown3 hgrow3 HA2 HL2 HB2
  have HRS : Hid (RS w3.heap.size (w3.heap.size + 1) p A (w3.alloc (.cells #[.slice V m cv] 24)) vs) := hide ⟨⟨V, m, cv, Blk.new w3 _ _, HM.out, owns_le (unhide HO3), OutC.of (InC.own (unhide HO3)) _⟩, OutC.of (unhide HA3) _, by omega, by simp⟩
  have HB4 := hide ((unhide HB3).alloc (unhide HB3).size (.cells #[.slice V m cv] 24))
  have HZ : Hid (w.heap.size ≤ w3.heap.size) := Lib.hid (unhide HB3).size
  have HB := hide (HBL.out _ _ _ (unhide HRS))
  clear HA3 HB3 HO3 HRS HBL
  go_wp2_with fail
  refine (unhide HB).mono ?_
  rintro e w5 ⟨s, rfl, hsome, hk5⟩
  have HB5 : Hid (Below w.heap.size w w5) := hide ((unhide HB4).trans (hk5.mono (fun k (hk : k < w.heap.size) => ⟨Nat.lt_of_lt_of_le hk (unhide HB4).size, by have := HZ.out; omega⟩)).to_below)
  clear hk5 HB HB4
  cases r with
  | none =>
    have HRN : Hid (R = none) := Lib.hid HRF.out
    clear hsome
    simp only [Option.isSome_none]
    go_wp2_with fail
    go_ret2
    exact ⟨by rw [HRN.out]; rfl, unhide HB5⟩
  | some rr =>
    obtain ⟨xs, q⟩ := rr
    obtain ⟨rfl, -⟩ := hsome xs q rfl
    have HRN : Hid (R = some s) := Lib.hid HRF.out
    clear hsome
    simp only [Option.isSome_some]
    go_wp2_with fail
    go_ret2
    exact ⟨by rw [HRN.out]; rfl, unhide HB5⟩

end Go.Proofs.YtdifpemohdnolaaGreat
