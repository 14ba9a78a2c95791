/- choices$1 as an iterator, for every loop body that keeps what lay below and the iterator's own two blocks. Conditions: at most 131072 factors, none empty, at most 4096 sequences. -/
import Derived.Test.YtkdlmgahkckjbaaGreatFpD
import Derived.Test.YtkdlmgahkckjbaaGreatFpC
import Derived.Test.YtkdlmgahkckjbaaGreatFnI
namespace Go.Proofs.YtkdlmgahkckjbaaGreat
open Go.RowKit Go.Shelf VM

attribute [local go_sem] Oper.semAt_some

/-- between two sequences -/
structure ChI (n₀ : Nat) (W : World) (fs : List (List ByteArray)) (J : List BV → World → Prop) (m : Nat) (Ds : List Nat) (X : World) : Prop where
  j : J (chS fs m) X
  b : Below n₀ W X
  sz : W.heap.size + 2 ≤ X.heap.size
  row : ∃ c : List ByteArray, c.length = fs.length ∧ Blk X W.heap.size 27 (rowA c)
  box : Blk X (W.heap.size + 1) 22 #[.slice (some ⟨W.heap.size, 0, none⟩) fs.length fs.length]
  nd : Ds.Nodup
  ds : ∀ D ∈ Ds, W.heap.size ≤ D ∧ X.heap[D]? = some noCalls
/-- between two factors -/
structure ChR (C R : Nat) (fs : List (List ByteArray)) (c : List ByteArray) (m : Nat) (X Y : World) (pre : List (Ix fs.length)) (Z : World) : Prop where
  g : X.grownBy Z (some C)
  sz : Y.heap.size ≤ Z.heap.size
  row : Blk Z C 27 (rowA (foldC fs (c, m) pre).1)
  rest : Blk Z R 3 #[.int .i64 ((foldC fs (c, m) pre).2 : Nat)]
theorem ChR.from {C R : Nat} {fs : List (List ByteArray)} {c : List ByteArray} {m : Nat} {X Y : World} (hX : X.heap.size ≤ Y.heap.size) (hC : C < Y.heap.size) (hR : R < Y.heap.size) : OwnFrom Y.heap.size (ChR C R fs c m X Y) := fun pre Z Z' row h hg hr => by
  have hne : ∀ k, k < Y.heap.size → some k ≠ row := fun k hk e => by have := (hr k e.symm).1; omega
  exact ⟨⟨hg.os.trans h.g.os, hg.tape.trans h.g.tape, hg.output.trans h.g.output, Nat.le_trans h.g.size hg.size, fun i hi hc => (hg.block i (Nat.lt_of_lt_of_le hi h.g.size) (hne i (by omega))).trans (h.g.block i hi hc)⟩,
    Nat.le_trans h.sz hg.size, h.row.grown hg (hne C hC), h.rest.grown hg (hne R hR)⟩
theorem keep_put {Pr : Nat → Prop} {W : World} {l : Nat} {o : Obj} (o' : Obj) (hp : ∀ k, Pr k → k ≠ l) (_ : W.heap[l]? = some o) : Keep Pr W (W.putObj l o') :=
  ⟨rfl, rfl, rfl, by simp [World.putObj], fun k hk => World.putObj_heap_other (hp k hk)⟩
theorem keepsFrom_drew (B : Nat) (W : World) : KeepsFrom B W W.drew := ⟨Nat.le_refl _, fun _ _ _ h _ => h⟩
theorem chooseR_size : ∀ {R : List (List ByteArray)}, (∀ f ∈ R, ∀ s ∈ f, s.size ≤ 281474976710656) → ∀ n, ∀ s ∈ chooseR R n, s.size ≤ 281474976710656
  | [], _, _, s, h => by cases h
  | f :: r, hf, n, s, h => by
    rcases List.mem_append.1 h with q | q
    · exact chooseR_size (fun g hg => hf g (List.mem_cons_of_mem _ hg)) _ s q
    · rw [List.mem_singleton.1 q]
      cases h2 : f[n % f.length]? with
      | none => exact Nat.zero_le _
      | some u => exact hf f (by simp) u (List.mem_of_getElem? h2)
set_option maxRecDepth 100000 in
set_option maxHeartbeats 8000000 in
theorem choices1_in (n : Nat) (hn : 3 ≤ n) (l Bf Bc n₀ bF cap N : Nat) (zs : List SV) (fs : List (List ByteArray)) (hlen : fs.length ≤ 131072) (hN4 : N ≤ 4096) (J Jx : List BV → World → Prop) (W : World) (hBf : Bf < n₀) (hBc : Bc < n₀) (hn₀ : n₀ ≤ W.heap.size)
    (hJ : OwnR W.heap.size W.heap.size 2 J) (hJx : OwnR W.heap.size W.heap.size 2 Jx)
    (hY : ∀ pre x X, J pre X → W.heap.size + 2 ≤ X.heap.size → pre.length < N → YieldAt Fence.wide (n - 1) Tryz.prog l #[.string x.1] X fun e Y =>
      (e = .returned (.bool true) ∧ J (pre ++ [x]) Y ∧ KeepR n₀ W.heap.size 2 X Y) ∨ (e = .returned (.bool false) ∧ Jx (pre ++ [x]) Y ∧ ∀ k, W.heap.size ≤ k → X.heap[k]? = some noCalls → Y.heap[k]? = some noCalls))
    (hBfc : W.cell? ⟨Bf, 0, none⟩ = some (.slice (some ⟨bF, 0, none⟩) fs.length cap)) (hBcc : W.cell? ⟨Bc, 0, none⟩ = some (.int .i64 (N : Int))) (hF : Facs n₀ W bF zs fs) (hsz : ∀ f ∈ fs, ∀ s ∈ f, s.size ≤ 281474976710656) (h0 : J [] W) :
    CallsIn Fence.wide n Tryz.prog 44 #[.func (.yield l) #[] #[], .pointer (some ⟨Bf, 0, none⟩), .pointer (some ⟨Bc, 0, none⟩)] W fun e Y => (∃ v, e = .returned v) ∧
      (J (chS fs N) Y ∨ ∃ k, k ≤ N ∧ Jx (chS fs k) Y) := by
  have hro : Fence.wide.round = none := rfl
  have h1 : 1 ≤ n := by omega
  obtain ⟨i0, hi0, hiz0, hiz1, hiz2⟩ := info_parts val_info
  have HY := Lib.hid hY
  have HJ := Lib.hid hJ
  have HJX := Lib.hid hJx
  have HF := hide hF
  have HSZ := Lib.hid hsz
  obtain ⟨len, hln⟩ : ∃ len, len = fs.length := ⟨_, rfl⟩
  have HLN := Lib.hid hln
  rw [← hln] at hBfc hlen
  clear hY hJ hJx hF hln hsz
  refine callsIn_of_wp_marks Tryz.func44 rfl trivial ?_ hro
  simp only [Tryz.ntmps44, List.size_toArray, List.length_cons, List.length_nil, Nat.reduceAdd, Nat.reduceSub, Array.replicate_succ, Array.replicate_zero, List.push_toArray, List.append_toArray, List.nil_append, List.cons_append]
  have hBc2 : ((W.alloc (.cells (rowA (List.replicate len ⟨#[]⟩)) 27)).alloc (.cells #[.slice (some ⟨W.heap.size, 0, none⟩) len len] 22)).cell? ⟨Bc, 0, none⟩ = some (.int .i64 (N : Int)) := by
    rw [World.cell?_alloc_lt _ _ _ (by show Bc < _; simp; omega), World.cell?_alloc_lt _ _ _ (by show Bc < _; omega)]; exact hBcc
  gi_wp2_with (gi_at_make; refine wpListIn_make_all _ rfl _ _ 22 rfl 27 i0 (.string ⟨#[]⟩) 1 Tryz.underlying22 hi0 hiz0 hiz1 .i64 .i64 _ _ len rfl rfl rfl rfl (by rw [hiz2]; omega) (by unfold maxLen; omega) (rowA (List.replicate len ⟨#[]⟩)) (rowA_made len) ?_)
  have hK0 : Blk ((W.alloc (.cells (rowA (List.replicate len ⟨#[]⟩)) 27)).alloc (.cells #[.slice (some ⟨W.heap.size, 0, none⟩) len len] 22)) W.heap.size 27 (rowA (List.replicate fs.length ⟨#[]⟩)) := by
    rw [← HLN.out]
    exact (Blk.new W _ _).alloc _
  have hK1 : Blk ((W.alloc (.cells (rowA (List.replicate len ⟨#[]⟩)) 27)).alloc (.cells #[.slice (some ⟨W.heap.size, 0, none⟩) len len] 22)) (W.heap.size + 1) 22 #[.slice (some ⟨W.heap.size, 0, none⟩) len len] := by
    have := Blk.new (W.alloc (.cells (rowA (List.replicate len ⟨#[]⟩)) 27)) 22 #[.slice (some ⟨W.heap.size, 0, none⟩) len len]
    rwa [World.size_alloc] at this
  have hI0 : ChI n₀ W fs J 0 [] ((W.alloc (.cells (rowA (List.replicate len ⟨#[]⟩)) 27)).alloc (.cells #[.slice (some ⟨W.heap.size, 0, none⟩) len len] 22)) :=
    ⟨HJ.out.alloc _ (HJ.out.alloc _ h0), (((Below.refl _ W).alloc hn₀ _).alloc (by simp; omega) _), by simp, ⟨_, by simp, hK0⟩, by rw [← HLN.out]; exact hK1, List.nodup_nil, fun _ h => by cases h⟩
  generalize (W.alloc (.cells (rowA (List.replicate len ⟨#[]⟩)) 27)).alloc (.cells #[.slice (some ⟨W.heap.size, 0, none⟩) len len] 22) = V at *
  have HI0 := hide hI0
  clear hK0 hK1 hI0 hBc2
  refine wpIn_loop (fun a X => ∃ (m : Nat) (Ds : List Nat) (u5 u6 u14 u15 u16 u17 u18 u35 u36 u37 u38 u39 u40 : Value), a = { tmps := #[.func (.yield l) #[] #[], .pointer (some ⟨Bf, 0, none⟩), .pointer (some ⟨Bc, 0, none⟩), undef, .pointer (some ⟨W.heap.size + 1, 0, none⟩), u5, u6, undef, undef, .slice (some ⟨bF, 0, none⟩) len cap, .int .i64 (len : Int), .slice (some ⟨W.heap.size, 0, none⟩) len len, .int .i64 (N : Int), .int .i64 (m : Int), u14, u15, u16, u17, u18, undef, undef, undef, undef, undef, undef, undef, undef, undef, undef, undef, undef, undef, undef, undef, undef, u35, u36, u37, u38, u39, u40], defers := Ds.map fun D => { target := .collected D, args := #[] } } ∧ m ≤ N ∧ Hid (ChI n₀ W fs J m Ds X))
    (fun a _ => N - (intOf (a.tmps.getD 13 undef)).toNat) ⟨0, [], undef, undef, undef, undef, undef, undef, undef, undef, undef, undef, undef, undef, undef, rfl, Nat.zero_le _, HI0⟩ ?_
  rintro a X ⟨m, Ds, u5, u6, u14, u15, u16, u17, u18, u35, u36, u37, u38, u39, u40, rfl, hm, HI⟩
  by_cases hmN : m < N
  · have hBf1 : X.cell? ⟨Bf, 0, none⟩ = some (.slice (some ⟨bF, 0, none⟩) len cap) := ((unhide HI).b.cell (p := ⟨Bf, 0, none⟩) hBf).trans hBfc
    have hXs := (unhide HI).sz
    have hBf2 : (X.alloc (.cells #[.int .i64 (m : Int)] 3)).cell? ⟨Bf, 0, none⟩ = some (.slice (some ⟨bF, 0, none⟩) len cap) := (World.cell?_alloc_lt _ _ _ (by show Bf < _; omega)).trans hBf1
    have HBW := bw_any (some ⟨bF, 0, none⟩) len cap (X.alloc (.cells #[.int .i64 (m : Int)] 3))
    clear hBf1
    gi_wp2_with (refine ⟨trivial, ?_⟩; gi_at_call 45; refine (callsIn_wide.2 HBW).mono ?_; rintro e W5 ⟨rfl, rfl⟩)
    obtain ⟨c, hc, kC⟩ := (unhide HI).row
    have kR := (Blk.new X 3 #[.int .i64 (m : Int)]).alloc (.cells #[.slice (some ⟨bF, 0, none⟩) len cap] 44)
    have kB := Blk.new (X.alloc (.cells #[.int .i64 (m : Int)] 3)) 44 #[.slice (some ⟨bF, 0, none⟩) len cap]
    rw [World.size_alloc] at kB
    have bXY : Below X.heap.size X ((X.alloc (.cells #[.int .i64 (m : Int)] 3)).alloc (.cells #[.slice (some ⟨bF, 0, none⟩) len cap] 44)) := ((Below.refl _ X).alloc (Nat.le_refl _) _).alloc (by simp) _
    have sXY : ((X.alloc (.cells #[.int .i64 (m : Int)] 3)).alloc (.cells #[.slice (some ⟨bF, 0, none⟩) len cap] 44)).heap.size = X.heap.size + 2 := by simp
    clear HBW hBf2
    generalize (X.alloc (.cells #[.int .i64 (m : Int)] 3)).alloc (.cells #[.slice (some ⟨bF, 0, none⟩) len cap] 44) = Y at *
    have HKR := hide kR
    have HBXY := hide bXY
    have HKC := hide kC
    have HFY : Hid (Facs n₀ Y bF zs fs) := hide ((unhide HF).below ((unhide HI).b.trans (bXY.mono (by omega))))
    have hseq : SeqStopsK Fence.wide (n - 1) Tryz.prog 66 #[.pointer (some ⟨X.heap.size + 1, 0, none⟩)] (fun x : Ix fs.length => #[.int .i64 (x.1 : Int), svV (zs[x.1]?.getD sv0)]) (Keep fun k => k < n₀ ∨ k = X.heap.size + 1) (fun ys => ys = uptoW fs.length fs.length) (fun _ => True) fs.length Y := fun l' J' Jx' W' hW' _ _ hY' h0' => by
      refine (bw1_in Fence.wide (n - 1) trivial rfl (by omega) l' (X.heap.size + 1) bF 0 fs.length cap (fun k => k < n₀ ∨ k = X.heap.size + 1) zs (by rw [← HLN.out]; omega) (.inl (unhide HFY).lt) (.inr rfl) J' Jx' hY' W' ?_ ?_ h0').mono ?_
      · rw [← HLN.out]
        exact (hW'.cell (p := ⟨X.heap.size + 1, 0, none⟩) (by show X.heap.size + 1 < _; omega)).trans (kB.cell 0)
      · intro j hj
        rw [Nat.zero_add]
        exact (hW'.cell (p := ⟨bF, j, none⟩) (by have := (unhide HFY).lt; show bF < _; omega)).trans ((unhide HFY).cells j hj)
      · rintro e Z ⟨he, ⟨ys, rfl, hj⟩ | ⟨pre, _, hj⟩⟩
        · exact ⟨he, .inl ⟨_, rfl, hj⟩⟩
        · exact ⟨he, .inr ⟨_, trivial, hj⟩⟩
    refine wpIn_rangeFunc_ownG hro h1 (gf := 66) (lb := #[.pointer (some ⟨X.heap.size + 1, 0, none⟩)]) rfl trivial (enters_of Tryz.func66 (by kernel_rfl) rfl) hseq (fun h k => h.trans k) (fun W l o o' hl ho _ _ => keep_put o' (fun k hk => by rcases hk with h | h <;> omega) ho) (Below.refl _ _) (fun _ => rfl)
      (ChR W.heap.size X.heap.size fs c m X Y) (fun _ _ _ => False) (ChR.from (by omega) (by omega) (by omega)) (fun _ _ _ _ _ h _ _ => h)
      ⟨only_below bXY _, Nat.le_refl _, kC.below bXY (by omega), kR⟩
      (fun x => { tmps := #[.func (.yield l) #[] #[], .pointer (some ⟨Bf, 0, none⟩), .pointer (some ⟨Bc, 0, none⟩), undef, .pointer (some ⟨W.heap.size + 1, 0, none⟩), .int .i64 (m : Int), .pointer (some ⟨X.heap.size, 0, none⟩), .int .i64 (x.1 : Int), svV (zs[x.1]?.getD sv0), .slice (some ⟨bF, 0, none⟩) len cap, .int .i64 (len : Int), .slice (some ⟨W.heap.size, 0, none⟩) len len, .int .i64 (N : Int), .int .i64 (m : Int), .bool true, .int .i64 (m : Int), .int .i64 (m : Int), .slice (some ⟨bF, 0, none⟩) len cap, .func (.func 66) #[] #[.pointer (some ⟨X.heap.size + 1, 0, none⟩)], .int .i64 (x.1 : Int), svV (zs[x.1]?.getD sv0), undef, undef, undef, undef, undef, undef, undef, undef, undef, undef, undef, undef, undef, undef, u35, u36, u37, u38, u39, u40], defers := [] }) ?assign ?body ?done ?stop
    case assign =>
      intro l x W K hK
      gi_wp2
      exact hK
    case body =>
      rintro l pre ⟨i, hi⟩ Z hR hlt
      have bZ : Below n₀ X Z := ⟨hR.g.os, hR.g.tape, hR.g.output, hR.g.size, fun k hk => hR.g.block k (by omega) (fun e => by injection e with e; omega)⟩
      obtain ⟨e1, e2, e3, e4⟩ := (((unhide HF).below (unhide HI).b).below bZ).fac i hi
      have hbx : Z.cell? ⟨W.heap.size + 1, 0, none⟩ = some (.slice (some ⟨W.heap.size, 0, none⟩) len len) := by
        have := ((unhide HI).box.grown hR.g (by intro e; injection e with e; omega)).cell 0
        rw [← HLN.out] at this
        exact this
      have hcl := foldC_len fs (c, m) pre
      have hql := foldC_le fs (c, m) pre
      have hsn := foldC_snoc fs (c, m) pre ⟨i, hi⟩
      have hG := hide hR.g
      have hSZ := hR.sz
      have hRow := hR.row
      have hRest := hR.rest
      have hAll : Hid (∀ Z' : World, X.grownBy Z' (some W.heap.size) → Y.heap.size ≤ Z'.heap.size → Blk Z' W.heap.size 27 (rowA (foldC fs (c, m) (pre ++ [⟨i, hi⟩])).1) → Blk Z' X.heap.size 3 #[.int .i64 ((foldC fs (c, m) (pre ++ [⟨i, hi⟩])).2 : Nat)] → ChR W.heap.size X.heap.size fs c m X Y (pre ++ [⟨i, hi⟩]) Z') := Lib.hid fun Z' h1 h2 h3 h4 => ⟨h1, h2, h3, h4⟩
      rw [hsn] at hAll
      unfold stepC at hAll
      clear hsn hR
      generalize foldC fs (c, m) pre = st at *
      obtain ⟨cs, q⟩ := st
      dsimp only at hcl hql hRow hRest hAll ⊢
      generalize fs[i]?.getD [] = f9 at *
      generalize zs[i]?.getD sv0 = x9 at *
      obtain ⟨xa, n9, xc⟩ := x9
      dsimp only at e1
      rw [← e1] at e2 e3 hAll
      obtain ⟨u9, hu9⟩ : ∃ u, f9[q % n9]? = some u := ⟨_, List.getElem?_eq_getElem (by rw [← e1]; exact Nat.mod_lt _ e2)⟩
      obtain ⟨g9, o9, ea, hg9, hfu⟩ := e4 _ u9 hu9
      dsimp only at ea
      subst ea
      rw [hu9] at hAll
      dsimp only [Option.getD_some] at hAll
      clear e1 e4 hu9
      have hi2 : i < len := by rw [HLN.out]; exact hi
      obtain ⟨old, hold⟩ : ∃ s, cs[i]? = some s := ⟨_, List.getElem?_eq_getElem (by omega)⟩
      have hoc : Z.cell? ⟨W.heap.size, i, none⟩ = some (.string old) := by rw [hRow.cell, rowA_get, hold]; rfl
      have hof := hRow.frozen i
      have hrs := hRest.cell 0
      change Z.cell? ⟨X.heap.size, 0, none⟩ = some (.int .i64 (q : Int)) at hrs
      have hAL := hide (fun (Z' : World) => hAll.out Z')
      dsimp only [svV]
      clear hAll hold hcl
      gi_wp2
      obtain ⟨C, hC⟩ : ∃ C, Hid (C = W.heap.size) := ⟨_, Lib.hid rfl⟩
      obtain ⟨R, hRR⟩ : ∃ R, Hid (R = X.heap.size) := ⟨_, Lib.hid rfl⟩
      rw [← hC.out] at hbx hoc hof hRow hG
      rw [← hRR.out] at hrs hRest
      simp only [← hC.out, ← hRR.out]
      obtain ⟨d, hd⟩ : ∃ d, Hid (d = q % n9) := ⟨_, Lib.hid rfl⟩
      have hdn : d < n9 := by rw [hd.out]; exact Nat.mod_lt _ e2
      have hfu2 : Z.cell? ⟨g9, o9 + d, none⟩ = some (.string u9) := by rw [hd.out]; exact hfu
      have gtm : (q : Int).tmod (n9 : Int) = (d : Int) := by rw [hd.out]; rfl
      clear hfu
      have hRC : R ≠ C := by rw [hRR.out, hC.out]; omega
      have hgC : g9 ≠ C := by rw [hC.out]; omega
      have hn0 : ¬ n9 = 0 := by omega
      have fd0 : Hid (Z.drew.cell? ⟨C + 1, 0, none⟩ = some (.slice (some ⟨C, 0, none⟩) len len)) := hide hbx
      have fd1 : Hid (Z.drew.cell? ⟨R, 0, none⟩ = some (.int .i64 (q : Int))) := hide hrs
      have fd2 : Hid (Z.drew.cell? ⟨g9, o9 + d, none⟩ = some (.string u9)) := hide hfu2
      have hocd : Z.drew.cell? ⟨C, i, none⟩ = some (.string old) := hoc
      have hofd : Z.drew.frozen? ⟨C, i, none⟩ = false := hof
      have hdr := hide ((Keep.refl (fun _ => True) Z).drew)
      have hdk := hide (keepsFrom_drew Y.heap.size Z)
      have hRowd := hide hRow.drew
      have hRestd := hide hRest.drew
      have hGd : Hid (X.grownBy Z.drew (some C)) := hide ⟨(unhide hG).os, (unhide hG).tape, (unhide hG).output, (unhide hG).size, (unhide hG).block⟩
      refine wpIn_region_calm (S := fun W => W.cell? ⟨C + 1, 0, none⟩ = some (.slice (some ⟨C, 0, none⟩) len len) ∧ W.cell? ⟨R, 0, none⟩ = some (.int .i64 (q : Int)) ∧ W.cell? ⟨g9, o9 + d, none⟩ = some (.string u9)) (by kernel_rfl) (by kernel_rfl) ⟨fd0, fd1, fd2⟩ (fun _ => ?_)
      generalize Z.drew = wd at *
      try simp only [Act.put, List.setIfInBounds_toArray, List.set_cons_zero, List.set_cons_succ]
      refine wpAnyH_take (i := 0) (oi := { dst := some 21, op := Op.load 22 (Operand.tmp 4), type := 22, pos := "set.go:101", after := #[], guard := none }) (v := ?_) rfl (by kernel_rfl) (by kernel_rfl) (by kernel_rfl) (fun _ _ _ h => h) (Or.inl ⟨by rfl, ?_⟩) ⟨fd0, fd1, fd2⟩ ?_
      rotate_left 1
      · intro w hSw
        obtain ⟨hSw0, hSw1, hSw2⟩ := hSw
        go_simp
        first
          | done
          | with_reducible rfl
          | rw [if_neg (by omega)]
      try simp only [Act.put, List.setIfInBounds_toArray, List.set_cons_zero, List.set_cons_succ]
      refine wpAnyH_take (i := 1) (oi := { dst := some 22, op := Op.move (Operand.tmp 7), type := 3, pos := "set.go:101", after := #[], guard := none }) (v := ?_) rfl (by kernel_rfl) (by kernel_rfl) (by kernel_rfl) (fun _ _ _ h => h) (Or.inl ⟨by rfl, ?_⟩) ⟨fd0, fd1, fd2⟩ ?_
      rotate_left 1
      · intro w hSw
        obtain ⟨hSw0, hSw1, hSw2⟩ := hSw
        go_simp
        first
          | done
          | with_reducible rfl
          | rw [if_neg (by omega)]
      try simp only [Act.put, List.setIfInBounds_toArray, List.set_cons_zero, List.set_cons_succ]
      refine wpAnyH_take (i := 2) (oi := { dst := some 23, op := Op.move (Operand.tmp 8), type := 22, pos := "set.go:101", after := #[], guard := none }) (v := ?_) rfl (by kernel_rfl) (by kernel_rfl) (by kernel_rfl) (fun _ _ _ h => h) (Or.inl ⟨by rfl, ?_⟩) ⟨fd0, fd1, fd2⟩ ?_
      rotate_left 1
      · intro w hSw
        obtain ⟨hSw0, hSw1, hSw2⟩ := hSw
        go_simp
        first
          | done
          | with_reducible rfl
          | rw [if_neg (by omega)]
      try simp only [Act.put, List.setIfInBounds_toArray, List.set_cons_zero, List.set_cons_succ]
      refine wpAnyH_take (i := 3) (oi := { dst := some 24, op := Op.load 3 (Operand.tmp 6), type := 3, pos := "set.go:101", after := #[], guard := none }) (v := ?_) rfl (by kernel_rfl) (by kernel_rfl) (by kernel_rfl) (fun _ _ _ h => h) (Or.inl ⟨by rfl, ?_⟩) ⟨fd0, fd1, fd2⟩ ?_
      rotate_left 1
      · intro w hSw
        obtain ⟨hSw0, hSw1, hSw2⟩ := hSw
        go_simp
        first
          | done
          | with_reducible rfl
          | rw [if_neg (by omega)]
      try simp only [Act.put, List.setIfInBounds_toArray, List.set_cons_zero, List.set_cons_succ]
      refine wpAnyH_take (i := 4) (oi := { dst := some 25, op := Op.move (Operand.tmp 8), type := 22, pos := "set.go:101", after := #[], guard := none }) (v := ?_) rfl (by kernel_rfl) (by kernel_rfl) (by kernel_rfl) (fun _ _ _ h => h) (Or.inl ⟨by rfl, ?_⟩) ⟨fd0, fd1, fd2⟩ ?_
      rotate_left 1
      · intro w hSw
        obtain ⟨hSw0, hSw1, hSw2⟩ := hSw
        go_simp
        first
          | done
          | with_reducible rfl
          | rw [if_neg (by omega)]
      try simp only [Act.put, List.setIfInBounds_toArray, List.set_cons_zero, List.set_cons_succ]
      refine wpAnyH_take (i := 5) (oi := { dst := some 26, op := Op.call { callee := Callee.builtin Builtin.len, args := #[Operand.tmp 25], argTypes := #[22] }, type := 3, pos := "set.go:101", after := #[{ on := 4, ground := Ground.data }], guard := none }) (v := ?_) rfl (by kernel_rfl) (by kernel_rfl) (by kernel_rfl) (fun _ _ _ h => h) (Or.inl ⟨by rfl, ?_⟩) ⟨fd0, fd1, fd2⟩ ?_
      rotate_left 1
      · intro w hSw
        obtain ⟨hSw0, hSw1, hSw2⟩ := hSw
        go_simp
        first
          | done
          | with_reducible rfl
          | rw [if_neg (by omega)]
      try simp only [Act.put, List.setIfInBounds_toArray, List.set_cons_zero, List.set_cons_succ]
      refine wpAnyH_take (i := 6) (oi := { dst := some 27, op := Op.binOp BinOp.rem 3 (Operand.tmp 24) (Operand.tmp 26) 3, type := 3, pos := "set.go:101", after := #[{ on := 3, ground := Ground.data }, { on := 5, ground := Ground.data }], guard := none }) (v := .int .i64 (d : Int)) rfl (by kernel_rfl) (by kernel_rfl) (by kernel_rfl) (fun _ _ _ h => h) (Or.inl ⟨by rfl, ?_⟩) ⟨fd0, fd1, fd2⟩ ?_
      · intro w hSw
        go_simp
        try exact hn0
      try simp only [Act.put, List.setIfInBounds_toArray, List.set_cons_zero, List.set_cons_succ]
      refine wpAnyH_take (i := 7) (oi := { dst := some 28, op := Op.indexAddr 22 (Operand.tmp 23) (Operand.tmp 27), type := 0, pos := "set.go:101", after := #[{ on := 2, ground := Ground.data }, { on := 6, ground := Ground.data }], guard := none }) (v := ?_) rfl (by kernel_rfl) (by kernel_rfl) (by kernel_rfl) (fun _ _ _ h => h) (Or.inl ⟨by rfl, ?_⟩) ⟨fd0, fd1, fd2⟩ ?_
      rotate_left 1
      · intro w hSw
        obtain ⟨hSw0, hSw1, hSw2⟩ := hSw
        go_simp
        first
          | done
          | with_reducible rfl
          | rw [if_neg (by omega)]
      try simp only [Act.put, List.setIfInBounds_toArray, List.set_cons_zero, List.set_cons_succ]
      refine wpAnyH_take (i := 8) (oi := { dst := some 29, op := Op.load 27 (Operand.tmp 28), type := 27, pos := "set.go:101", after := #[{ on := 7, ground := Ground.data }], guard := none }) (v := ?_) rfl (by kernel_rfl) (by kernel_rfl) (by kernel_rfl) (fun _ _ _ h => h) (Or.inl ⟨by rfl, ?_⟩) ⟨fd0, fd1, fd2⟩ ?_
      rotate_left 1
      · intro w hSw
        obtain ⟨hSw0, hSw1, hSw2⟩ := hSw
        go_simp
        first
          | done
          | with_reducible rfl
          | rw [if_neg (by omega)]
      try simp only [Act.put, List.setIfInBounds_toArray, List.set_cons_zero, List.set_cons_succ]
      refine wpAnyH_take (i := 9) (oi := { dst := some 30, op := Op.indexAddr 22 (Operand.tmp 21) (Operand.tmp 22), type := 0, pos := "set.go:101", after := #[{ on := 0, ground := Ground.data }, { on := 1, ground := Ground.data }, { on := 0, ground := Ground.phase }, { on := 1, ground := Ground.phase }, { on := 2, ground := Ground.phase }, { on := 3, ground := Ground.phase }, { on := 4, ground := Ground.phase }, { on := 5, ground := Ground.phase }, { on := 6, ground := Ground.phase }, { on := 7, ground := Ground.phase }, { on := 8, ground := Ground.phase }], guard := none }) (v := ?_) rfl (by kernel_rfl) (by kernel_rfl) (by kernel_rfl) (fun _ _ _ h => h) (Or.inl ⟨by rfl, ?_⟩) ⟨fd0, fd1, fd2⟩ ?_
      rotate_left 1
      · intro w hSw
        obtain ⟨hSw0, hSw1, hSw2⟩ := hSw
        go_simp
        first
          | done
          | with_reducible rfl
          | rw [if_neg (by omega)]
      try simp only [Act.put, List.setIfInBounds_toArray, List.set_cons_zero, List.set_cons_succ]
      refine wpAnyH_ready (rs := [10]) (by kernel_rfl) (by simp) ?_
      refine AllReadyH.cons (o := { dst := none, op := Op.store 27 (Operand.tmp 30) (Operand.tmp 29), type := 0, pos := "set.go:101", after := #[{ on := 9, ground := Ground.data }, { on := 8, ground := Ground.data }, { on := 0, ground := Ground.phase }, { on := 1, ground := Ground.phase }, { on := 2, ground := Ground.phase }, { on := 3, ground := Ground.phase }, { on := 4, ground := Ground.phase }, { on := 5, ground := Ground.phase }, { on := 6, ground := Ground.phase }, { on := 7, ground := Ground.phase }, { on := 8, ground := Ground.phase }], guard := none }) rfl (fun K hK => ?_) AllReadyH.nil
      go_simp
      try dsimp only
      have kS : Keep (fun k => k ≠ C) wd (wd.setCell ⟨C, i, none⟩ (.string u9)) := (Keep.refl _ _).setCell (fun h => h rfl) _
      refine hK.out _ _ ⟨((kS.cell (b := C + 1) (by omega) 0).trans (unhide fd0)), ((kS.cell (b := R) hRC 0).trans (unhide fd1)), ((kS.cell (b := g9) hgC (o9 + d)).trans (unhide fd2))⟩ (fun _ => ?_)
      clear hK K
      try simp only [Act.put, List.setIfInBounds_toArray, List.set_cons_zero, List.set_cons_succ]
      refine wpAnyH_done (by kernel_rfl) ?_ _
      refine OnlyN.normal ?_
      have kRw : Blk (wd.setCell ⟨C, i, none⟩ (.string u9)) R 3 #[.int .i64 (q : Int)] := (unhide hRestd).far hRC _
      have hr1 := kRw.cell 0
      have hr2 := kRw.frozen 0
      have HKRW := hide kRw
      clear kRw
      gi_wp2
      have gq : wrap64 ((q : Int) / (n9 : Int)) = ((q / n9 : Nat) : Int) := by
        rw [← Int.natCast_ediv]
        have h9 := Nat.div_le_self q n9
        generalize q / n9 = r at h9 ⊢
        exact IntWalk.wrap64_in _ (by omega)
      rw [gq]
      have hAL2 := unhide hAL
      rw [← hC.out, ← hRR.out] at hAL2 ⊢
      have g1 := only_set (unhide hGd) i (.string u9)
      have hk9 : KeepsFrom Y.heap.size Z ((wd.setCell ⟨C, i, none⟩ (.string u9)).setCell ⟨R, 0, none⟩ (.int .i64 ((q / n9 : Nat) : Int))) := ((unhide hdk).trans ((KeepsOthers.setCell _ _ _).from _)).trans ((KeepsOthers.setCell _ _ _).from _)
      have hCR := Ne.symm hRC
      refine ⟨hk9, (((unhide hdr).mono (fun _ _ => trivial)).setCell (p := ⟨C, i, none⟩) ?_ _).setCell (p := ⟨R, 0, none⟩) ?_ _, hAL2 _ ⟨g1.os, g1.tape, g1.output, ?_, fun k hk hne => (Below.heap_setCell _ _ _ k ?_).trans (g1.block k hk hne)⟩ (Nat.le_trans hSZ hk9.size) ?_ ((unhide HKRW).set_ 0 _)⟩
      · rintro (h | h)
        · have h2 : C < n₀ := h; have := hC.out; omega
        · have h2 : C = _ := h; have := hC.out; have := hRR.out; omega
      · rintro (h | h)
        · have h2 : R < n₀ := h; have := hRR.out; omega
        · have h2 : R = _ := h; omega
      · exact Nat.le_trans g1.size (by simp [World.setCell])
      · have := hRR.out; show k ≠ R; omega
      · have := ((unhide hRowd).set_ i (.string u9)).far hCR (.int .i64 ((q / n9 : Nat) : Int)) (p := ⟨R, 0, none⟩)
        rw [rowA_set] at this
        exact this
    case done =>
      rintro D ys Z hD rfl hR hK
      have hcl := foldC_len fs (c, m) (uptoW fs.length fs.length)
      have hall := foldC_all fs c m hc
      have hRow := hR.row
      rw [hall] at hRow hcl
      have hbx : Z.cell? ⟨W.heap.size + 1, 0, none⟩ = some (.slice (some ⟨W.heap.size, 0, none⟩) len len) := by
        have := ((unhide HI).box.grown hR.g (by intro e; injection e with e; omega)).cell 0
        rw [← HLN.out] at this
        exact this
      have HS := pseq_any (chooseR fs.reverse m) (some ⟨W.heap.size, 0, none⟩) len len Z (by rw [hcl, HLN.out]; exact hc.symm) (by omega) (chooseR_size (fun f hf => HSZ.out f (List.mem_reverse.1 hf)) m) (rowA_in hRow)
      rw [seq_same] at HS
      have hDZ := (Array.getElem?_eq_some_iff.1 hK).1
      have HSS := Lib.hid (chS_succ fs m)
      have HIX := HI
      have HG := hide hR.g
      have HRW := hide hRow
      have hZY := hR.sz
      have HCL : Hid ((chooseR fs.reverse m).length = fs.length) := Lib.hid (hcl.trans hc)
      clear hall hRow hcl hR
      gi_wp2_with (refine ⟨trivial, ?_⟩; gi_at_call 46; refine (callsIn_wide.2 HS).mono ?_; rintro e W5 ⟨rfl, hb5⟩; have hG5 : X.grownBy W5 (some W.heap.size) := only_trans (unhide HG) (only_below hb5 _); have hJ5 := HJ.out _ _ _ _ (unhide HIX).j hG5 (fun r e => by injection e with e; exact .inr ⟨by omega, by omega⟩); obtain ⟨fn, tmps, assign, body, hy, hR⟩ := HY.out _ ⟨mkM 4 (chooseR fs.reverse m), mkM_size 4 (by decide) _⟩ W5 hJ5 (by have := hG5.size; omega) (by rw [chS_len]; exact hmN))
      refine hR.mono ?_
      rintro e W6 (⟨rfl, hJ6, hk6⟩ | ⟨rfl, hJx6, hd6⟩)
      · gi_wp2
        have ds5 : ∀ E ∈ D :: Ds, W.heap.size ≤ E ∧ W5.heap[E]? = some noCalls := fun E hE => by
          rcases List.mem_cons.1 hE with rfl | hE
          · exact ⟨by omega, (hb5.block _ hDZ).trans hK⟩
          · obtain ⟨q1, q2⟩ := (unhide HIX).ds E hE
            exact ⟨q1, (hG5.block E (Array.getElem?_eq_some_iff.1 q2).1 (fun e => by injection e with e; subst e; obtain ⟨c5, _, k5⟩ := (unhide HIX).row; rw [show X.heap[W.heap.size]? = _ from k5] at q2; cases q2)).trans q2⟩
        have nd5 : (D :: Ds).Nodup := List.nodup_cons.2 ⟨fun q => by have := (Array.getElem?_eq_some_iff.1 ((unhide HIX).ds D q).2).1; omega, (unhide HIX).nd⟩
        have b5 : Below n₀ X W5 := ⟨hG5.os, hG5.tape, hG5.output, hG5.size, fun k hk => hG5.block k (by omega) (fun e => by injection e with e; omega)⟩
        refine ⟨⟨m + 1, D :: Ds, _, _, _, _, _, _, _, _, _, _, _, _, _, by go_num, by omega, hide ⟨by rw [HSS.out]; exact hJ6, ((unhide HIX).b.trans b5).trans hk6.b, by have := hk6.b.size; have := hG5.size; omega, ⟨_, HCL.out, (hk6.r _ (Nat.le_refl _) (by omega)).trans ((unhide HRW).below hb5 (by omega))⟩,
          (hk6.r _ (by omega) (by omega)).trans ((unhide HIX).box.grown hG5 (by intro e; injection e with e; omega)), nd5, fun E hE => ⟨(ds5 E hE).1, hk6.d E (ds5 E hE).1 (ds5 E hE).2⟩⟩⟩, ?_⟩
        simp [intOf]
        omega
      · gi_wp2
        have ds5 : ∀ E ∈ D :: Ds, W.heap.size ≤ E ∧ W5.heap[E]? = some noCalls := fun E hE => by
          rcases List.mem_cons.1 hE with rfl | hE
          · exact ⟨by omega, (hb5.block _ hDZ).trans hK⟩
          · obtain ⟨q1, q2⟩ := (unhide HIX).ds E hE
            exact ⟨q1, (hG5.block E (Array.getElem?_eq_some_iff.1 q2).1 (fun e => by injection e with e; subst e; obtain ⟨c5, _, k5⟩ := (unhide HIX).row; rw [show X.heap[W.heap.size]? = _ from k5] at q2; cases q2)).trans q2⟩
        have nd5 : (D :: Ds).Nodup := List.nodup_cons.2 ⟨fun q => by have := (Array.getElem?_eq_some_iff.1 ((unhide HIX).ds D q).2).1; omega, (unhide HIX).nd⟩
        exact leaves_many (K := fun Z => Jx (chS fs (m + 1)) Z) (B := W.heap.size) (v := .tuple #[]) (fun Z E h hE ho => HJX.out.putObj _ h hE ho rfl) (fun Z h => ⟨results_none rfl _ _ _, ⟨_, rfl⟩, .inr ⟨m + 1, by omega, h⟩⟩) (D :: Ds) W6 nd5 (fun E hE => ⟨(ds5 E hE).1, hd6 E (ds5 E hE).1 (ds5 E hE).2⟩) (by rw [HSS.out]; exact hJx6)
    case stop =>
      rintro D cc pre Z hD _ h hK
      exact h.elim
  · obtain rfl : m = N := by omega
    gi_wp2
    exact leaves_many (K := fun Z => J (chS fs m) Z) (B := W.heap.size) (v := .tuple #[]) (fun Z E h hE ho => HJ.out.putObj _ h hE ho rfl) (fun Z h => ⟨results_none rfl _ _ _, ⟨_, rfl⟩, .inl h⟩) Ds X (unhide HI).nd (unhide HI).ds (unhide HI).j

theorem choices_seq (n : Nat) (hn : 3 ≤ n) (Bf Bc bF cap N : Nat) (zs : List SV) (fs : List (List ByteArray)) (hlen : fs.length ≤ 131072) (hN4 : N ≤ 4096) (w : World) (hBf : Bf < w.heap.size) (hBc : Bc < w.heap.size)
    (hBfc : w.cell? ⟨Bf, 0, none⟩ = some (.slice (some ⟨bF, 0, none⟩) fs.length cap)) (hBcc : w.cell? ⟨Bc, 0, none⟩ = some (.int .i64 (N : Int))) (hF : Facs w.heap.size w bF zs fs) (hsz : ∀ f ∈ fs, ∀ s ∈ f, s.size ≤ 281474976710656) :
    SeqR Fence.wide n Tryz.prog 44 #[.pointer (some ⟨Bf, 0, none⟩), .pointer (some ⟨Bc, 0, none⟩)] (fun x : BV => #[Value.string x.1]) w.heap.size 2 (fun ys => ys = chS fs N) (fun pre => pre <+: chS fs N) (chS fs N).length w := fun l J Jx W hW hJ hJx hY h0 => by
  rw [chS_len] at hY
  refine (choices1_in n hn l Bf Bc w.heap.size bF cap N zs fs hlen hN4 J Jx W hBf hBc hW.size hJ hJx hY ((hW.cell (p := ⟨Bf, 0, none⟩) hBf).trans hBfc) ((hW.cell (p := ⟨Bc, 0, none⟩) hBc).trans hBcc) (hF.below hW) hsz h0).mono ?_
  rintro e Y ⟨he, hj | ⟨k, hk, hj⟩⟩
  · exact ⟨he, .inl ⟨_, rfl, hj⟩⟩
  · exact ⟨he, .inr ⟨_, chS_take fs hk, hj⟩⟩
theorem strs_chS (fs : List (List ByteArray)) (N : Nat) : strs (chS fs N) = (List.range N).map fun m => mkM 4 (chooseR fs.reverse m) := by
  unfold strs chS
  rw [List.map_map]; rfl
theorem strs_chS_all (fs : List (List ByteArray)) : strs (chS fs (prodR fs.reverse)) = (rowsR fs.reverse).map (mkM 4) := by
  rw [strs_chS, rowsR_eq, List.map_map]; rfl
/-- what collected makes of the choices -/
theorem coll_choices (Bf Bc bF cap N : Nat) (zs : List SV) (fs : List (List ByteArray)) (hlen : fs.length ≤ 131072) (hN : N = prodR fs.reverse) (hN4 : N ≤ 4096) (hnd : ∀ f ∈ fs, f.Nodup) (w : World) (hBf : Bf < w.heap.size) (hBc : Bc < w.heap.size)
    (hBfc : w.cell? ⟨Bf, 0, none⟩ = some (.slice (some ⟨bF, 0, none⟩) fs.length cap)) (hBcc : w.cell? ⟨Bc, 0, none⟩ = some (.int .i64 (N : Int))) (hF : Facs w.heap.size w bF zs fs) (hsz : ∀ f ∈ fs, ∀ s ∈ f, s.size ≤ 281474976710656) :
    Calls Tryz.prog 21 #[.func (.func 44) #[] #[.pointer (some ⟨Bf, 0, none⟩), .pointer (some ⟨Bc, 0, none⟩)]] w (RetV w (bnd ((rowsR fs.reverse).map (mkM 4)))) := by
  have h := (callsIn_wide (n := 5)).1 (collectedR_in 2 5 (by omega) 44 #[.pointer (some ⟨Bf, 0, none⟩), .pointer (some ⟨Bc, 0, none⟩)] (enters_of Tryz.func44 (by kernel_rfl) rfl) (chS fs N) (by
      rw [hN, strs_chS_all]
      exact seqs_nodup (rowsR_nodup fun f hf => hnd f (List.mem_reverse.1 hf))) (by rw [chS_len]; omega) w
    (choices_seq 4 (by omega) Bf Bc bF cap N zs fs hlen hN4 w hBf hBc hBfc hBcc hF hsz))
  rw [hN, strs_chS_all] at h
  exact h

end Go.Proofs.YtkdlmgahkckjbaaGreat
