/- FinsetMaps returns true: the functions on maps answer as the reference does. Conditions: strings of at most 2^48 bytes. -/
-- by tools/gen_fml.py
import Derived.Test.YtaambeficfiacaaGreatFmE
import Derived.Test.YtaambeficfiacaaGreatFnL
namespace Go.Proofs.YtaambeficfiacaaGreat
open Go Go.RowKit Go.Shelf VM

/-- two rows from a base on -/
structure TwoC (B : Nat) (w : World) (kv vv : Value) (n m : Nat) (ks vs : List Value) : Prop where
  ok : w.ownsRow B 22 1 kv n ks
  ov : w.ownsRow B 22 1 vv m vs
  ne : kv.ownBlock = none ∨ vv.ownBlock = none ∨ kv.ownBlock ≠ vv.ownBlock
section
variable {B : Nat} {w w' : World} {kv vv kv' vv' : Value} {n m g : Nat} {ks vs : List Value}
theorem TwoC.start (B : Nat) (w : World) : TwoC B w (.slice none 0 0) (.slice none 0 0) 0 0 [] [] := ⟨World.ownsRow_nil _ _ _ _, World.ownsRow_nil _ _ _ _, .inl rfl⟩
theorem TwoC.alloc (h : TwoC B w kv vv n m ks vs) (x : Obj) : TwoC B (w.alloc x) kv vv n m ks vs := ⟨h.ok.alloc x, h.ov.alloc x, h.ne⟩
theorem TwoC.below (h : TwoC B w kv vv n m ks vs) (hb : Below w.heap.size w w') : TwoC B w' kv vv n m ks vs := ⟨owns_below h.ok hb, owns_below h.ov hb, h.ne⟩
theorem TwoC.other (h : TwoC B w kv vv n m ks vs) (hg : w.grownBy w' (some g)) (hB : g < B) : TwoC B w' kv vv n m ks vs :=
  ⟨owns_other h.ok hg (fun j hj e => by have := (h.ok.lt j hj).1; have := Option.some.inj e; omega), owns_other h.ov hg (fun j hj e => by have := (h.ov.lt j hj).1; have := Option.some.inj e; omega), h.ne⟩
theorem TwoC.appK (h : TwoC B w kv vv n m ks vs) {n' : Nat} {ks' : List Value} (ho : w'.ownsRow B 22 1 kv' n' ks') (hg : w.grownBy w' kv.ownBlock) (hr : kv'.ownBlock = kv.ownBlock ∨ kv'.ownBlock = some w.heap.size) : TwoC B w' kv' vv n' m ks' vs := by
  refine ⟨ho, ?_, ?_⟩
  · by_cases e : vv.ownBlock = none
    · exact h.ov.kept hg (.inl e)
    · refine h.ov.kept hg (.inr fun q => ?_)
      rcases h.ne with h1 | h1 | h1
      · exact e (q.trans h1)
      · exact e h1
      · exact h1 q.symm
  · rcases hr with h1 | h1
    · rw [h1]; exact h.ne
    · rw [h1]
      exact .inr (.inr fun q => by have := (h.ov.lt _ q.symm).2; omega)
theorem TwoC.swap (h : TwoC B w kv vv n m ks vs) : TwoC B w vv kv m n vs ks := ⟨h.ov, h.ok, by
  rcases h.ne with h1 | h1 | h1
  · exact .inr (.inl h1)
  · exact .inl h1
  · exact .inr (.inr fun q => h1 q.symm)⟩
theorem TwoC.appV (h : TwoC B w kv vv n m ks vs) {n' : Nat} {vs' : List Value} (ho : w'.ownsRow B 22 1 vv' n' vs') (hg : w.grownBy w' vv.ownBlock) (hr : vv'.ownBlock = vv.ownBlock ∨ vv'.ownBlock = some w.heap.size) : TwoC B w' kv vv' n n' ks vs' :=
  (h.swap.appK ho hg hr).swap
end
theorem snoc_size {l : List ByteArray} {s : ByteArray} (h : ∀ x ∈ l, x.size ≤ 131072) (hs : s.size ≤ 131072) : ∀ x ∈ l ++ [s], x.size ≤ 131072 := fun x hx => by
  rcases List.mem_append.1 hx with q | q
  · exact h x q
  · rw [List.mem_singleton.1 q]; exact hs
set_option linter.unusedSimpArgs false in
set_option maxRecDepth 100000 in
set_option maxHeartbeats 12800000 in
theorem finsetMaps_any (u k v : ByteArray) (hu : u.size ≤ 281474976710656) (hk : k.size ≤ 281474976710656) (hv : v.size ≤ 281474976710656) (a3 : Option Addr) (n3 c3 : Nat) (h3 : n3 ≤ maxLen) (w : World) (hI3 : InInts w a3 n3) :
    Calls Tryz.prog 4 #[.string u, .string k, .string v, .slice a3 n3 c3] w fun e w' => e = .returned (.bool true) ∧ Below w.heap.size w w' := by
  have HC0 := hide (CSt.start (c := c3) hI3)
  have HB0 : Hid (Below w.heap.size w (w.alloc (.cells #[.slice a3 n3 c3, .int .i64 0] 56))) := hide ((Below.refl _ _).alloc (Nat.le_refl _) _)
  have HN0 := Lib.hid h3
  have HV2 := hide (value_st 2 (by decide) (by decide))
  have HU := Lib.hid hu
  have HK := Lib.hid hk
  have HVV := Lib.hid hv
  have HRI := Lib.hid (fun z w => rint_any z w)
  have HIZ := Lib.hid (fun x (h0 : (0 : Int) ≤ x) (h1 : x < 6) => (six_val _ (int_six h0 h1)).2)
  obtain ⟨i0, hi0, hiz0, hiz1, hiz2⟩ := info_parts val_info
  clear hI3 h3 hu hk hv
  go_enter Tryz.func4, Tryz.ntmps4
  go_wp2_with fail
  refine (new_cho w a3 n3 c3).mono ?_
  rintro e w1 ⟨rfl, rfl⟩
  have hg1 : w.heap.size < (w.alloc (.cells #[.slice a3 n3 c3, .int .i64 0] 56)).heap.size := by simp
  generalize w.alloc (.cells #[.slice a3 n3 c3, .int .i64 0] 56) = w1 at *
  obtain ⟨g0, hg0⟩ : ∃ g0, g0 = w.heap.size := ⟨_, rfl⟩
  rw [← hg0] at HC0 hg1 ⊢
  have HW : Hid (g0 = w.heap.size) := Lib.hid hg0
  clear hg0
  go_wp2_with fail
  go_loopw [10, 11, 12] (fun kv vv iv wr => ∃ (q : Nat) (ks vs : List ByteArray), iv = .int .i64 q ∧ q ≤ 5 ∧ Hid (q = ks.length) ∧ Hid (q = vs.length) ∧ Hid (∀ s ∈ ks, s.size ≤ 131072) ∧ Hid (∀ s ∈ vs, s.size ≤ 131072) ∧ Hid (TwoC w1.heap.size wr kv vv q q (ks.map Value.string) (vs.map Value.string)) ∧ Hid (CSt wr g0 a3 n3 c3) ∧ Hid (w1.grownBy wr (some g0))) (fun _ _ iv _ => 5 - (intOf iv).toNat)
  case atStart => exact ⟨0, [], [], rfl, by omega, rfl, rfl, (fun s h => by cases h), (fun s h => by cases h), TwoC.start _ _, unhide HC0, only_refl _ _⟩
  case round =>
    obtain ⟨q, ks, vs, rfl, hq, hks, hvs, hsk, hsv, hT, hC, hG⟩ := hrel
    obtain ⟨A4, c4, rfl⟩ := owns_form hT.out.ok
    obtain ⟨A5, c5, rfl⟩ := owns_form hT.out.ov
    go_wp2_with fail
    refine (next_st 5 5 rfl (by decide) (by decide) hC.out HN0.out).mono ?_
    rintro e w2 ⟨R, hR, rfl, hC2, hG2⟩
    have HT2 := hide (hT.out.other hG2 hg1)
    have HC2 := hide hC2
    have HG2 := hide (only_trans hG.out hG2)
    clear hC2 hG2 hT hC hG
    by_cases hqR : q < R
    · go_wp2_with fail
      refine (HRI.out (q : Int) _).mono ?_
      rintro e w3 ⟨rfl, hb3⟩
      have HS3 : Hid ((intB (q : Int)).size ≤ 131072) := Lib.hid (by have := HIZ.out q (by omega) (by omega); omega)
      have HC3 := hide ((unhide HC2).below hb3)
      have HG3 := hide (only_trans (unhide HG2) (only_below hb3 (some g0)))
      have HT3 := hide ((unhide HT2).below hb3)
      clear hb3
      generalize intB (q : Int) = s at *
      have HT4 := hide ((unhide HT3).alloc (.cells #[.string s] 22))
      have hz4 : w1.heap.size ≤ (w3.alloc (.cells #[.string s] 22)).heap.size := by have := (unhide HG3).size; simp; omega
      go_wp2_with (at_builtin; refine wpList_app _ rfl _ _ 33 rfl w1.heap.size 22 i0 _ 1 16 Tryz.underlying33 hi0 hiz0 hiz1 hiz2 rfl (by decide) _ q (ks.map Value.string) rfl (unhide HT4).ok (some ⟨w3.heap.size, 0, none⟩) 1 1 [.string s] rfl rfl (new_in w3 22 #[.string s]) (one_str s) (by unfold maxLen; omega) (by omega) hz4 ?_; intro v5 w5 hown5 hgrow5 hor5)
      have hall := grow_all (unhide HC3) (unhide HG3) hg1 s (unhide HT3).ok hgrow5
      have HC5 := hide hall.1
      have HG5 := hide hall.2
      have HT5 := hide ((unhide HT4).appK (ks' := (ks ++ [s]).map Value.string) (by rw [List.map_append]; exact hown5) hgrow5 hor5)
      obtain ⟨A6, c6, rfl⟩ := owns_form (unhide HT5).ok
      clear hall hown5 hgrow5 hor5
      go_wp2_with fail
      refine ((unhide HV2) 2 rfl w5 g0 a3 n3 c3 (unhide HC5) HN0.out).mono ?_
      rintro e w6 ⟨y, rfl, hy, hC6, hG6⟩
      have HS6 : Hid (y.size ≤ 131072) := Lib.hid (by have := hy.2; simp at this; omega)
      have HC6 := hide hC6
      have HT6 := hide ((unhide HT5).other hG6 hg1)
      have HG6 := hide (only_trans (unhide HG5) hG6)
      have HT7 := hide ((unhide HT6).alloc (.cells #[.string y] 22))
      have hz7 : w1.heap.size ≤ (w6.alloc (.cells #[.string y] 22)).heap.size := by have := (unhide HG6).size; simp; omega
      clear hy hC6 hG6
      go_wp2_with (at_builtin; refine wpList_app _ rfl _ _ 33 rfl w1.heap.size 22 i0 _ 1 16 Tryz.underlying33 hi0 hiz0 hiz1 hiz2 rfl (by decide) _ q (vs.map Value.string) rfl (unhide HT7).ov (some ⟨w6.heap.size, 0, none⟩) 1 1 [.string y] rfl rfl (new_in w6 22 #[.string y]) (one_str y) (by unfold maxLen; omega) (by omega) hz7 ?_; intro v8 w8 hown8 hgrow8 hor8)
      have hall := grow_all (unhide HC6) (unhide HG6) hg1 y (unhide HT6).ov hgrow8
      have HC8 := hide hall.1
      have HG8 := hide hall.2
      have HT8 := hide ((unhide HT7).appV (vs' := (vs ++ [y]).map Value.string) (by rw [List.map_append]; exact hown8) hgrow8 hor8)
      clear hall hown8 hgrow8 hor8
      go_wp2_with fail
      go_roundw
      case rel => exact ⟨q + 1, ks ++ [s], vs ++ [y], by go_num, by omega, by rw [List.length_append, ← hks.out]; rfl, by rw [List.length_append, ← hvs.out]; rfl, snoc_size hsk.out HS3.out, snoc_size hsv.out HS6.out, unhide HT8, unhide HC8, unhide HG8⟩
      case measure => simp [intOf]; omega
    · have HMP := Lib.hid (fun w hr hr2 => rmap_any ks vs A4 A5 q q c4 c5 w hks.out hvs.out (by omega) (by omega) (fun s hs => by have := hsk.out s hs; omega) (fun s hs => by have := hsv.out s hs; omega) hr hr2)
      have HMZ := Lib.hid (mapM_size ks vs)
      generalize mapM ks vs = mm at *
      clear hks hvs hsk hsv
      go_wp2_with fail
      go_loopw [0, 1, 2, 13] (fun uv kv vv iv wr => ∃ (i : Nat) (x y z : ByteArray), uv = .string x ∧ kv = .string y ∧ vv = .string z ∧ iv = .int .i64 i ∧ i ≤ 2 ∧ Hid (x.size ≤ 281474976710656) ∧ Hid (y.size ≤ 281474976710656) ∧ Hid (z.size ≤ 281474976710656) ∧ Hid (TwoC w1.heap.size wr (.slice A4 q c4) (.slice A5 q c5) q q (ks.map Value.string) (vs.map Value.string)) ∧ Hid (CSt wr g0 a3 n3 c3) ∧ Hid (w1.grownBy wr (some g0))) (fun _ _ _ iv _ => 2 - (intOf iv).toNat)
      case atStart => exact ⟨0, u, k, v, rfl, rfl, rfl, rfl, by omega, HU.out, HK.out, HVV.out, unhide HT2, unhide HC2, unhide HG2⟩
      case round =>
        obtain ⟨i, x, y, z, rfl, rfl, rfl, rfl, hi, hx, hy, hz, hT, hC, hG⟩ := hrel
        clear HT2 HC2 HG2
        by_cases hi2 : i < 2
        · rename World => w10
          have HT10 := hide hT.out
          have HC10 := hide hC.out
          have HG10 := hide hG.out
          have d0 := Lib.hid (fun w => pLookup_any x y hx.out hy.out w)
          have d1 := Lib.hid (fun w => rLookup_any x y hx.out hy.out w)
          have d2 := Lib.hid (fun w => pHasKey_any x y hx.out hy.out w)
          have d3 := Lib.hid (fun w => rHasKey_any x y hx.out hy.out w)
          have d4 := Lib.hid (fun w => pUpdate_any x y z hx.out hy.out hz.out w)
          have d5 := Lib.hid (fun w => rUpdate_any x y z hx.out hy.out hz.out w)
          have d6 := Lib.hid (fun w => pDelete_any x y hx.out hy.out w)
          have d7 := Lib.hid (fun w => rDelete_any x y hx.out hy.out w)
          unfold RetV at d0 d1 d4 d5 d6 d7
          unfold RetB at d2 d3
          generalize lookM x y = ra at *
          have pa := tl_self ra.1
          obtain ⟨sa, ea⟩ := ra
          generalize hasM x y = rb at *
          have pb : (rb.1 == rb.1) = true := by simp
          obtain ⟨sb, eb⟩ := rb
          generalize updM x y z = rc at *
          have pc := tl_self rc.1
          obtain ⟨sc, ec⟩ := rc
          generalize delM x y = rd at *
          have pd := tl_self rd.1
          obtain ⟨sd, ed⟩ := rd
          clear hT hC hG hx hy hz
          go_wp2_with fail
          refine (d0.out _).mono ?_
          rintro e w11 ⟨rfl, hb11⟩
          have HT11 := hide ((unhide HT10).below hb11)
          have HC11 := hide ((unhide HC10).below hb11)
          have HG11 := hide (only_trans (unhide HG10) (only_below hb11 (some g0)))
          clear hb11 HT10 HC10 HG10
          go_wp2_with fail
          refine (d1.out _).mono ?_
          rintro e w12 ⟨rfl, hb12⟩
          have HT12 := hide ((unhide HT11).below hb12)
          have HC12 := hide ((unhide HC11).below hb12)
          have HG12 := hide (only_trans (unhide HG11) (only_below hb12 (some g0)))
          clear hb12 HT11 HC11 HG11
          go_wp2_with fail
          refine (d2.out _).mono ?_
          rintro e w13 ⟨rfl, hb13⟩
          have HT13 := hide ((unhide HT12).below hb13)
          have HC13 := hide ((unhide HC12).below hb13)
          have HG13 := hide (only_trans (unhide HG12) (only_below hb13 (some g0)))
          clear hb13 HT12 HC12 HG12
          go_wp2_with fail
          refine (d3.out _).mono ?_
          rintro e w14 ⟨rfl, hb14⟩
          have HT14 := hide ((unhide HT13).below hb14)
          have HC14 := hide ((unhide HC13).below hb14)
          have HG14 := hide (only_trans (unhide HG13) (only_below hb14 (some g0)))
          clear hb14 HT13 HC13 HG13
          go_wp2_with fail
          refine (d4.out _).mono ?_
          rintro e w15 ⟨rfl, hb15⟩
          have HT15 := hide ((unhide HT14).below hb15)
          have HC15 := hide ((unhide HC14).below hb15)
          have HG15 := hide (only_trans (unhide HG14) (only_below hb15 (some g0)))
          clear hb15 HT14 HC14 HG14
          go_wp2_with fail
          refine (d5.out _).mono ?_
          rintro e w16 ⟨rfl, hb16⟩
          have HT16 := hide ((unhide HT15).below hb16)
          have HC16 := hide ((unhide HC15).below hb16)
          have HG16 := hide (only_trans (unhide HG15) (only_below hb16 (some g0)))
          clear hb16 HT15 HC15 HG15
          go_wp2_with fail
          refine (d6.out _).mono ?_
          rintro e w17 ⟨rfl, hb17⟩
          have HT17 := hide ((unhide HT16).below hb17)
          have HC17 := hide ((unhide HC16).below hb17)
          have HG17 := hide (only_trans (unhide HG16) (only_below hb17 (some g0)))
          clear hb17 HT16 HC16 HG16
          go_wp2_with fail
          refine (d7.out _).mono ?_
          rintro e w18 ⟨rfl, hb18⟩
          have HT18 := hide ((unhide HT17).below hb18)
          have HC18 := hide ((unhide HC17).below hb18)
          have HG18 := hide (only_trans (unhide HG17) (only_below hb18 (some g0)))
          clear hb18 HT17 HC17 HG17
          go_wp2_with fail
          refine (HMP.out _ (InC.own (unhide HT18).ok) (InC.own (unhide HT18).ov)).mono ?_
          rintro e w19 ⟨rfl, hb19⟩
          have HT19 := hide ((unhide HT18).below hb19)
          have HC19 := hide ((unhide HC18).below hb19)
          have HG19 := hide (only_trans (unhide HG18) (only_below hb19 (some g0)))
          clear hb19 HT18 HC18 HG18
          go_wp2_with fail
          refine (next_st 6 6 rfl (by decide) (by decide) (unhide HC19) HN0.out).mono ?_
          rintro e w20 ⟨R2, hR2, rfl, hC, hG⟩
          have HT20 := hide ((unhide HT19).other hG hg1)
          have HC20 := hide hC
          have HG20 := hide (only_trans (unhide HG19) hG)
          clear hC hG HT19 HC19 HG19
          go_wp2_with fail
          refine (HRI.out (R2 : Int) _).mono ?_
          rintro e w21 ⟨rfl, hb21⟩
          have HT21 := hide ((unhide HT20).below hb21)
          have HC21 := hide ((unhide HC20).below hb21)
          have HG21 := hide (only_trans (unhide HG20) (only_below hb21 (some g0)))
          clear hb21 HT20 HC20 HG20
          have HS9 : Hid ((intB (R2 : Int)).size ≤ 281474976710656) := Lib.hid (by have := HIZ.out R2 (by omega) (by omega); omega)
          generalize intB (R2 : Int) = s9 at *
          go_wp2_with fail
          refine ((unhide HV2) 2 rfl w21 g0 a3 n3 c3 (unhide HC21) HN0.out).mono ?_
          rintro e w22 ⟨y9, rfl, hy9, hC, hG⟩
          have HY9 : Hid (y9.size ≤ 281474976710656) := Lib.hid (by have := hy9.2; simp at this; omega)
          have HT22 := hide ((unhide HT21).other hG hg1)
          have HC22 := hide hC
          have HG22 := hide (only_trans (unhide HG21) hG)
          clear hC hG hy9 HT21 HC21 HG21
          go_wp2_with fail
          go_roundw
          case rel => exact ⟨i + 1, mm, s9, y9, rfl, rfl, rfl, by go_num, by omega, by have := HMZ.out; exact Lib.hid (by omega), HS9.out, HY9.out, unhide HT22, unhide HC22, unhide HG22⟩
          case measure => simp [intOf]; omega
        · have HB9 := hide (below_grown (unhide HB0) hG.out (Nat.le_of_eq HW.out.symm) (Nat.le_refl _))
          clear hT hC hG
          go_wp2_with fail
          refine (fawake_any _).mono ?_
          rintro e w30 ⟨rfl, hb30⟩
          have HB30 := hide ((unhide HB9).trans (hb30.mono (unhide HB9).size))
          clear hb30
          go_wp2_with fail
          go_ret
          exact ⟨rfl, unhide HB30⟩

end Go.Proofs.YtaambeficfiacaaGreat
