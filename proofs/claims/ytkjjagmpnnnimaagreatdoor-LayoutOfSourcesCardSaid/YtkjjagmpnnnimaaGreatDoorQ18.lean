/- The writer of sources: expr, one level up. Conditions: expr's contract one level down and at depth 0; at most 1000 names. -/
import Derived.Test.YtkjjagmpnnnimaaGreatDoorQ14
import Derived.Test.YtkjjagmpnnnimaaGreatDoorQ15
import Derived.Test.YtkjjagmpnnnimaaGreatDoorQ16
import Derived.Test.YtkjjagmpnnnimaaGreatDoorQ17
namespace Go.Proofs.YtkjjagmpnnnimaaGreatDoor
open Go.RowKit M

set_option maxRecDepth 100000 in
set_option maxHeartbeats 12800000 in
theorem gexpr_up {dep dep' : Int} {L D : Nat} (hE : ECon dep' L D) (hE0 : ECon 0 L D) (hd : IntKind.i64.wrap (dep - 1) = dep') (hp : 0 < dep) (hL : L ≤ 300) : ECon dep (17 + 3 * L) (1 + 3 * D) := by
  intro w Pr X k fr t h hn hf
  have k0 := h.c0
  have hkf := h.kf
  have HS := Lib.hid h
  have HN := Lib.hid hn
  have HE := Lib.hid hE
  have HE0 := Lib.hid hE0
  have hp2 : ¬ dep ≤ 0 := by omega
  clear h hn hE hE0
  go_enter Tryz.func17, Tryz.ntmps17
  go_wp2_with fail
  refine (gvariable _ HS.out HN.out (by omega)).mono ?_
  rintro e w1 ⟨s1, f1, rfl, hs1, hf1, hg1, hG1, hK1⟩
  have HG1 := Lib.hid hG1
  have HK1 := Lib.hid hK1
  have c1 := HG1.out.c0
  clear hG1 hK1
  cases hv : s1.toList.isEmpty
  case true =>
    go_wp2_with fail
    refine (gnext 8 8 rfl (by decide) (by decide) HG1.out HN.out).mono ?_
    rintro e w20 ⟨r20, hr20, rfl, hG20, hK20⟩
    have HG20 := Lib.hid hG20
    have HK20 := Lib.hid (HK1.out.trans hK20)
    clear hG20 hK20
    have c20 := HG20.out.c0
    have hd20 := digS_size r20
    by_cases h7 : r20 = 7
    · have g7 : ((r20 : Int) == 7) = true := beq_iff_eq.2 (by omega)
      clear h7
      go_wp2_with fail
      refine (HE.out _ _ _ _ _ _ HG20.out HN.out (by omega)).mono ?_
      rintro e w30 ⟨s30, f30, rfl, hs30, hf30, hg30, hG30, hK30⟩
      have hb30 : s30.size ≤ 500 := by omega
      have HG30 := Lib.hid hG30
      have HK30 := Lib.hid (HK20.out.trans hK30)
      clear hG30 hK30
      have c30 := HG30.out.c0
      go_wp2_with fail
      refine (HE.out _ _ _ _ _ _ HG30.out HN.out (by omega)).mono ?_
      rintro e w31 ⟨s31, f31, rfl, hs31, hf31, hg31, hG31, hK31⟩
      have hb31 : s31.size ≤ 500 := by omega
      have HG31 := Lib.hid hG31
      have HK31 := Lib.hid (HK30.out.trans hK31)
      clear hG31 hK31
      have c31 := HG31.out.c0
      go_wp2_with fail
      refine (HE.out _ _ _ _ _ _ HG31.out HN.out (by omega)).mono ?_
      rintro e w32 ⟨s32, f32, rfl, hs32, hf32, hg32, hG32, hK32⟩
      have hb32 : s32.size ≤ 500 := by omega
      have HG32 := Lib.hid hG32
      have HK32 := Lib.hid (HK31.out.trans hK32)
      clear hG32 hK32
      have c32 := HG32.out.c0
      go_wp2_with fail
      go_ret
      exact ⟨_, f32, rfl, by (try simp [ByteArray.size_append, size_lit]); omega, by omega, by omega, HG32.out, HK32.out⟩
    · have g7 : ((r20 : Int) == 7) = false := beq_eq_false_iff_ne.2 (by omega)
      clear h7
      go_wp2_with fail
      refine (gnext 10 10 rfl (by decide) (by decide) HG20.out HN.out).mono ?_
      rintro e w40 ⟨r40, hr40, rfl, hG40, hK40⟩
      have HG40 := Lib.hid hG40
      have HK40 := Lib.hid (HK20.out.trans hK40)
      clear hG40 hK40
      have c40 := HG40.out.c0
      have hd40 := digS_size r40
      by_cases h9 : r40 = 9
      · have g9 : ((r40 : Int) == 9) = true := beq_iff_eq.2 (by omega)
        clear h9
        go_wp2_with fail
        refine (glocal HE.out hd hL t HG40.out HN.out (by omega)).mono ?_
        rintro e w50 ⟨s50, f50, rfl, hs50, hf50, hg50, hG50, hK50⟩
        have HG50 := Lib.hid hG50
        have HK50 := Lib.hid (HK40.out.trans hK50)
        clear hG50 hK50
        have c50 := HG50.out.c0
        go_wp2_with fail
        go_ret
        exact ⟨_, f50, rfl, by (try simp [ByteArray.size_append, size_lit]); omega, by omega, by omega, HG50.out, HK50.out⟩
      · have g9 : ((r40 : Int) == 9) = false := beq_eq_false_iff_ne.2 (by omega)
        clear h9
        have ht : t = 0 ∨ t = 1 ∨ t = 2 ∨ t = 3 ∨ t = 4 ∨ (t ≠ 0 ∧ t ≠ 1 ∧ t ≠ 2 ∧ t ≠ 3 ∧ t ≠ 4) := by omega
        rcases ht with rfl | rfl | rfl | rfl | rfl | ⟨h1, h2, h3, h4, h5⟩
        · go_wp2_with fail
          refine (ginteger HE.out hd hL HG40.out HN.out (by omega)).mono ?_
          rintro e w70 ⟨s70, f70, rfl, hs70, hf70, hg70, hG70, hK70⟩
          have HG70 := Lib.hid hG70
          have HK70 := Lib.hid (HK40.out.trans hK70)
          clear hG70 hK70
          have c70 := HG70.out.c0
          go_wp2_with fail
          go_ret
          exact ⟨_, f70, rfl, by (try simp [ByteArray.size_append, size_lit]); omega, by omega, by omega, HG70.out, HK70.out⟩
        · go_wp2_with fail
          refine (gtruth HE.out hd hL HG40.out HN.out (by omega)).mono ?_
          rintro e w70 ⟨s70, f70, rfl, hs70, hf70, hg70, hG70, hK70⟩
          have HG70 := Lib.hid hG70
          have HK70 := Lib.hid (HK40.out.trans hK70)
          clear hG70 hK70
          have c70 := HG70.out.c0
          go_wp2_with fail
          go_ret
          exact ⟨_, f70, rfl, by (try simp [ByteArray.size_append, size_lit]); omega, by omega, by omega, HG70.out, HK70.out⟩
        · go_wp2_with fail
          refine (gsequence HE.out hd hL HG40.out HN.out (by omega)).mono ?_
          rintro e w70 ⟨s70, f70, rfl, hs70, hf70, hg70, hG70, hK70⟩
          have HG70 := Lib.hid hG70
          have HK70 := Lib.hid (HK40.out.trans hK70)
          clear hG70 hK70
          have c70 := HG70.out.c0
          go_wp2_with fail
          go_ret
          exact ⟨_, f70, rfl, by (try simp [ByteArray.size_append, size_lit]); omega, by omega, by omega, HG70.out, HK70.out⟩
        · go_wp2_with fail
          refine (gset HE.out hd hL HE0.out HG40.out HN.out (by omega)).mono ?_
          rintro e w70 ⟨s70, f70, rfl, hs70, hf70, hg70, hG70, hK70⟩
          have HG70 := Lib.hid hG70
          have HK70 := Lib.hid (HK40.out.trans hK70)
          clear hG70 hK70
          have c70 := HG70.out.c0
          go_wp2_with fail
          go_ret
          exact ⟨_, f70, rfl, by (try simp [ByteArray.size_append, size_lit]); omega, by omega, by omega, HG70.out, HK70.out⟩
        · go_wp2_with fail
          refine (HE.out _ _ _ _ _ _ HG40.out HN.out (by omega)).mono ?_
          rintro e w70 ⟨s70, f70, rfl, hs70, hf70, hg70, hG70, hK70⟩
          have hb70 : s70.size ≤ 500 := by omega
          have HG70 := Lib.hid hG70
          have HK70 := Lib.hid (HK40.out.trans hK70)
          clear hG70 hK70
          have c70 := HG70.out.c0
          go_wp2_with fail
          refine (HE.out _ _ _ _ _ _ HG70.out HN.out (by omega)).mono ?_
          rintro e w71 ⟨s71, f71, rfl, hs71, hf71, hg71, hG71, hK71⟩
          have hb71 : s71.size ≤ 500 := by omega
          have HG71 := Lib.hid hG71
          have HK71 := Lib.hid (HK70.out.trans hK71)
          clear hG71 hK71
          have c71 := HG71.out.c0
          go_wp2_with fail
          go_ret
          exact ⟨_, f71, rfl, by (try simp [ByteArray.size_append, size_lit]); omega, by omega, by omega, HG71.out, HK71.out⟩
        · have q0 : (t == 0) = false := beq_eq_false_iff_ne.2 h1
          have q1 : (t == 1) = false := beq_eq_false_iff_ne.2 h2
          have q2 : (t == 2) = false := beq_eq_false_iff_ne.2 h3
          have q3 : (t == 3) = false := beq_eq_false_iff_ne.2 h4
          have q4 : (t == 4) = false := beq_eq_false_iff_ne.2 h5
          clear h1 h2 h3 h4 h5
          go_wp2_with fail
          refine (gleaf _ HG40.out HN.out).mono ?_
          rintro e w70 ⟨s70, f70, rfl, hs70, hf70, hg70, hG70, hK70⟩
          have HG70 := Lib.hid hG70
          have HK70 := Lib.hid (HK40.out.trans hK70)
          clear hG70 hK70
          have c70 := HG70.out.c0
          go_wp2_with fail
          go_ret
          exact ⟨_, f70, rfl, by (try simp [ByteArray.size_append, size_lit]); omega, by omega, by omega, HG70.out, HK70.out⟩
  case false =>
    go_wp2_with fail
    refine (gnext 3 3 rfl (by decide) (by decide) HG1.out HN.out).mono ?_
    rintro e w2 ⟨r2, hr2, rfl, hG2, hK2⟩
    have HG2 := Lib.hid hG2
    have HK2 := Lib.hid (HK1.out.trans hK2)
    have c2 := HG2.out.c0
    clear hG2 hK2
    by_cases h0 : r2 = 0
    · have g0 : ((r2 : Int) == 0) = true := beq_iff_eq.2 (by omega)
      clear h0
      go_wp2_with fail
      go_ret
      exact ⟨_, f1, rfl, by omega, by omega, by omega, HG2.out, HK2.out⟩
    · have g0 : ((r2 : Int) == 0) = false := beq_eq_false_iff_ne.2 (by omega)
      clear h0
      go_wp2_with fail
      refine (gnext 8 8 rfl (by decide) (by decide) HG2.out HN.out).mono ?_
      rintro e w20 ⟨r20, hr20, rfl, hG20, hK20⟩
      have HG20 := Lib.hid hG20
      have HK20 := Lib.hid (HK2.out.trans hK20)
      clear hG20 hK20
      have c20 := HG20.out.c0
      have hd20 := digS_size r20
      by_cases h7 : r20 = 7
      · have g7 : ((r20 : Int) == 7) = true := beq_iff_eq.2 (by omega)
        clear h7
        go_wp2_with fail
        refine (HE.out _ _ _ _ _ _ HG20.out HN.out (by omega)).mono ?_
        rintro e w30 ⟨s30, f30, rfl, hs30, hf30, hg30, hG30, hK30⟩
        have hb30 : s30.size ≤ 500 := by omega
        have HG30 := Lib.hid hG30
        have HK30 := Lib.hid (HK20.out.trans hK30)
        clear hG30 hK30
        have c30 := HG30.out.c0
        go_wp2_with fail
        refine (HE.out _ _ _ _ _ _ HG30.out HN.out (by omega)).mono ?_
        rintro e w31 ⟨s31, f31, rfl, hs31, hf31, hg31, hG31, hK31⟩
        have hb31 : s31.size ≤ 500 := by omega
        have HG31 := Lib.hid hG31
        have HK31 := Lib.hid (HK30.out.trans hK31)
        clear hG31 hK31
        have c31 := HG31.out.c0
        go_wp2_with fail
        refine (HE.out _ _ _ _ _ _ HG31.out HN.out (by omega)).mono ?_
        rintro e w32 ⟨s32, f32, rfl, hs32, hf32, hg32, hG32, hK32⟩
        have hb32 : s32.size ≤ 500 := by omega
        have HG32 := Lib.hid hG32
        have HK32 := Lib.hid (HK31.out.trans hK32)
        clear hG32 hK32
        have c32 := HG32.out.c0
        go_wp2_with fail
        go_ret
        exact ⟨_, f32, rfl, by (try simp [ByteArray.size_append, size_lit]); omega, by omega, by omega, HG32.out, HK32.out⟩
      · have g7 : ((r20 : Int) == 7) = false := beq_eq_false_iff_ne.2 (by omega)
        clear h7
        go_wp2_with fail
        refine (gnext 10 10 rfl (by decide) (by decide) HG20.out HN.out).mono ?_
        rintro e w40 ⟨r40, hr40, rfl, hG40, hK40⟩
        have HG40 := Lib.hid hG40
        have HK40 := Lib.hid (HK20.out.trans hK40)
        clear hG40 hK40
        have c40 := HG40.out.c0
        have hd40 := digS_size r40
        by_cases h9 : r40 = 9
        · have g9 : ((r40 : Int) == 9) = true := beq_iff_eq.2 (by omega)
          clear h9
          go_wp2_with fail
          refine (glocal HE.out hd hL t HG40.out HN.out (by omega)).mono ?_
          rintro e w50 ⟨s50, f50, rfl, hs50, hf50, hg50, hG50, hK50⟩
          have HG50 := Lib.hid hG50
          have HK50 := Lib.hid (HK40.out.trans hK50)
          clear hG50 hK50
          have c50 := HG50.out.c0
          go_wp2_with fail
          go_ret
          exact ⟨_, f50, rfl, by (try simp [ByteArray.size_append, size_lit]); omega, by omega, by omega, HG50.out, HK50.out⟩
        · have g9 : ((r40 : Int) == 9) = false := beq_eq_false_iff_ne.2 (by omega)
          clear h9
          have ht : t = 0 ∨ t = 1 ∨ t = 2 ∨ t = 3 ∨ t = 4 ∨ (t ≠ 0 ∧ t ≠ 1 ∧ t ≠ 2 ∧ t ≠ 3 ∧ t ≠ 4) := by omega
          rcases ht with rfl | rfl | rfl | rfl | rfl | ⟨h1, h2, h3, h4, h5⟩
          · go_wp2_with fail
            refine (ginteger HE.out hd hL HG40.out HN.out (by omega)).mono ?_
            rintro e w70 ⟨s70, f70, rfl, hs70, hf70, hg70, hG70, hK70⟩
            have HG70 := Lib.hid hG70
            have HK70 := Lib.hid (HK40.out.trans hK70)
            clear hG70 hK70
            have c70 := HG70.out.c0
            go_wp2_with fail
            go_ret
            exact ⟨_, f70, rfl, by (try simp [ByteArray.size_append, size_lit]); omega, by omega, by omega, HG70.out, HK70.out⟩
          · go_wp2_with fail
            refine (gtruth HE.out hd hL HG40.out HN.out (by omega)).mono ?_
            rintro e w70 ⟨s70, f70, rfl, hs70, hf70, hg70, hG70, hK70⟩
            have HG70 := Lib.hid hG70
            have HK70 := Lib.hid (HK40.out.trans hK70)
            clear hG70 hK70
            have c70 := HG70.out.c0
            go_wp2_with fail
            go_ret
            exact ⟨_, f70, rfl, by (try simp [ByteArray.size_append, size_lit]); omega, by omega, by omega, HG70.out, HK70.out⟩
          · go_wp2_with fail
            refine (gsequence HE.out hd hL HG40.out HN.out (by omega)).mono ?_
            rintro e w70 ⟨s70, f70, rfl, hs70, hf70, hg70, hG70, hK70⟩
            have HG70 := Lib.hid hG70
            have HK70 := Lib.hid (HK40.out.trans hK70)
            clear hG70 hK70
            have c70 := HG70.out.c0
            go_wp2_with fail
            go_ret
            exact ⟨_, f70, rfl, by (try simp [ByteArray.size_append, size_lit]); omega, by omega, by omega, HG70.out, HK70.out⟩
          · go_wp2_with fail
            refine (gset HE.out hd hL HE0.out HG40.out HN.out (by omega)).mono ?_
            rintro e w70 ⟨s70, f70, rfl, hs70, hf70, hg70, hG70, hK70⟩
            have HG70 := Lib.hid hG70
            have HK70 := Lib.hid (HK40.out.trans hK70)
            clear hG70 hK70
            have c70 := HG70.out.c0
            go_wp2_with fail
            go_ret
            exact ⟨_, f70, rfl, by (try simp [ByteArray.size_append, size_lit]); omega, by omega, by omega, HG70.out, HK70.out⟩
          · go_wp2_with fail
            refine (HE.out _ _ _ _ _ _ HG40.out HN.out (by omega)).mono ?_
            rintro e w70 ⟨s70, f70, rfl, hs70, hf70, hg70, hG70, hK70⟩
            have hb70 : s70.size ≤ 500 := by omega
            have HG70 := Lib.hid hG70
            have HK70 := Lib.hid (HK40.out.trans hK70)
            clear hG70 hK70
            have c70 := HG70.out.c0
            go_wp2_with fail
            refine (HE.out _ _ _ _ _ _ HG70.out HN.out (by omega)).mono ?_
            rintro e w71 ⟨s71, f71, rfl, hs71, hf71, hg71, hG71, hK71⟩
            have hb71 : s71.size ≤ 500 := by omega
            have HG71 := Lib.hid hG71
            have HK71 := Lib.hid (HK70.out.trans hK71)
            clear hG71 hK71
            have c71 := HG71.out.c0
            go_wp2_with fail
            go_ret
            exact ⟨_, f71, rfl, by (try simp [ByteArray.size_append, size_lit]); omega, by omega, by omega, HG71.out, HK71.out⟩
          · have q0 : (t == 0) = false := beq_eq_false_iff_ne.2 h1
            have q1 : (t == 1) = false := beq_eq_false_iff_ne.2 h2
            have q2 : (t == 2) = false := beq_eq_false_iff_ne.2 h3
            have q3 : (t == 3) = false := beq_eq_false_iff_ne.2 h4
            have q4 : (t == 4) = false := beq_eq_false_iff_ne.2 h5
            clear h1 h2 h3 h4 h5
            go_wp2_with fail
            refine (gleaf _ HG40.out HN.out).mono ?_
            rintro e w70 ⟨s70, f70, rfl, hs70, hf70, hg70, hG70, hK70⟩
            have HG70 := Lib.hid hG70
            have HK70 := Lib.hid (HK40.out.trans hK70)
            clear hG70 hK70
            have c70 := HG70.out.c0
            go_wp2_with fail
            go_ret
            exact ⟨_, f70, rfl, by (try simp [ByteArray.size_append, size_lit]); omega, by omega, by omega, HG70.out, HK70.out⟩

end Go.Proofs.YtkjjagmpnnnimaaGreatDoor
