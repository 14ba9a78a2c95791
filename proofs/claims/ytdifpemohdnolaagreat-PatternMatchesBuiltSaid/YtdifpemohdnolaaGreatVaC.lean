/- value.compound: the encoding of parts in their order. Conditions: what fits says of each part is given; each string has at most 2^48 bytes. -/
import Derived.Test.YtdifpemohdnolaaGreatB0
import Derived.Test.YtdifpemohdnolaaGreatApp
import Derived.Lib.AppendStr
import Derived.Lib.SlBytesRow
import Derived.Laws.IdiomStrings
import Derived.Laws.MakeOwn
namespace Go.Proofs.YtdifpemohdnolaaGreat
open Go.RowKit

def bCells (l : List UInt8) : List Value := l.map fun b => .int .u8 (b.toNat : Int)
def totB (ps : List ByteArray) : Nat := (ps.map ByteArray.size).sum
def encL (k : UInt8) (ps : List ByteArray) : List UInt8 := k :: UInt8.ofNat (ps.length / 256) :: UInt8.ofNat ps.length :: (ps.map fun s => s.data.toList).flatten
def compB (F : ByteArray → Bool) (k : UInt8) (ps : List ByteArray) : ByteArray := if ps.all F = true ∧ 3 + totB ps ≤ 131072 then ⟨(encL k ps).toArray⟩ else ⟨#[]⟩
theorem totB_step {ps : List ByteArray} {j : Nat} {s : ByteArray} (h : ps[j]? = some s) : totB (ps.take (j + 1)) = totB (ps.take j) + s.size := by
  unfold totB
  rw [List.take_add_one, h, List.map_append, List.sum_append]
  simp
theorem totB_le (ps : List ByteArray) (j : Nat) : totB (ps.take j) ≤ totB ps := by
  unfold totB
  conv => rhs; rw [← List.take_append_drop j ps, List.map_append, List.sum_append]
  omega
theorem compB_big {F : ByteArray → Bool} {k : UInt8} {ps : List ByteArray} (h : 131072 < 3 + totB ps) : compB F k ps = ⟨#[]⟩ := by
  unfold compB
  rw [if_neg (fun q => by omega)]
theorem compB_bad {F : ByteArray → Bool} {k : UInt8} {ps : List ByteArray} {s : ByteArray} (hs : s ∈ ps) (h : F s = false) : compB F k ps = ⟨#[]⟩ := by
  unfold compB
  rw [if_neg (fun q => by have := List.all_eq_true.1 q.1 s hs; rw [h] at this; cases this)]
theorem compB_good {F : ByteArray → Bool} {k : UInt8} {ps : List ByteArray} (h : ∀ s ∈ ps, F s = true) (h2 : 3 + totB ps ≤ 131072) : compB F k ps = ⟨(encL k ps).toArray⟩ := by
  unfold compB
  rw [if_pos ⟨List.all_eq_true.2 h, h2⟩]
def hdrL (k : UInt8) (n : Nat) : List UInt8 := [k, UInt8.ofNat (n / 256), UInt8.ofNat n]
def codeL (k : UInt8) (ps : List ByteArray) (j : Nat) : List UInt8 := hdrL k ps.length ++ ((ps.take j).map fun s => s.data.toList).flatten
theorem codeL_all (k : UInt8) (ps : List ByteArray) {j : Nat} (h : ps.length ≤ j) : codeL k ps j = encL k ps := by
  unfold codeL
  rw [List.take_of_length_le h]; rfl
theorem codeL_step {k : UInt8} {ps : List ByteArray} {j : Nat} {s : ByteArray} (h : ps[j]? = some s) : bCells (codeL k ps (j + 1)) = bCells (codeL k ps j) ++ Go.Lib.strCells s := by
  unfold codeL bCells Go.Lib.strCells
  rw [List.take_add_one, h]
  simp
theorem codeL_len (k : UInt8) (ps : List ByteArray) (j : Nat) : (codeL k ps j).length = 3 + totB (ps.take j) := by
  unfold codeL totB hdrL
  rw [List.length_append, List.length_flatten, List.map_map]
  simp [Function.comp_def]
theorem codeL_zero (k : UInt8) (ps : List ByteArray) (n : Nat) (hn : n = ps.length) : bCells (codeL k ps 0) = [.int .u8 (k.toNat : Int), .int .u8 ((n : Int) / 256 % 256), .int .u8 ((n : Int) % 256)] := by
  subst hn
  have e1 : ((UInt8.ofNat (ps.length / 256)).toNat : Int) = (ps.length : Int) / 256 % 256 := by rw [UInt8.toNat_ofNat']; omega
  have e2 : ((UInt8.ofNat ps.length).toNat : Int) = (ps.length : Int) % 256 := by rw [UInt8.toNat_ofNat']; omega
  unfold codeL bCells hdrL
  simp only [List.take_zero, List.map_nil, List.flatten_nil, List.append_nil, List.map_cons, e1, e2]
theorem byte_info : (Tryz.prog.info? 5).map (fun i => (i.zero, i.size, i.bytes)) = some (some (.int .u8 0), 1, 1) := by kernel_rfl
theorem InC.at1v {w : World} {A : Option Addr} {xs : List Value} (h : InC w A xs) {i : Nat} {u : Value} (hi : xs[i]? = some u) : ∃ b off, A = some ⟨b, off, none⟩ ∧ b < w.heap.size ∧ w.cell? ⟨b, off + i, none⟩ = some u := by
  rcases h with h | ⟨b, off, h1, h2, h3⟩
  · rw [h] at hi; simp at hi
  · exact ⟨b, off, h1, h2, h3 i u hi⟩

set_option maxRecDepth 100000 in
set_option maxHeartbeats 6400000 in
theorem compound_any (w : World) (k : UInt8) (A : Option Addr) (n c : Nat) (ps : List ByteArray) (hn : n = ps.length) (hn2 : n ≤ 1048576) (hA : InC w A (ps.map Value.string)) (F : ByteArray → Bool) (hs : ∀ s ∈ ps, s.size ≤ 281474976710656)
    (hF : ∀ s ∈ ps, ∀ W, Calls Tryz.prog 58 #[.string s, .int .i64 31] W fun e w' => e = .returned (.bool (F s)) ∧ Below W.heap.size W w') :
    Calls Tryz.prog 86 #[.int .u8 (k.toNat : Int), .slice A n c] w fun e w' => e = .returned (.string (compB F k ps)) ∧ Below w.heap.size w w' := by
  have HA := hide hA
  have HN := Lib.hid hn
  have HS := Lib.hid hs
  have HF := Lib.hid hF
  obtain ⟨i0, hi0, hiz0, hiz1, hiz2⟩ := info_parts byte_info
  clear hA hn hs hF
  go_enter Tryz.func86, Tryz.ntmps86
  go_wp2_with fail
  go_loopw [5, 13] (fun lv iv wr => ∃ j L : Nat, iv = .int .i64 j ∧ lv = .int .i64 L ∧ j ≤ n ∧ L ≤ 131072 ∧ Hid (L = 3 + totB (ps.take j)) ∧ Hid (∀ s ∈ ps.take j, F s = true) ∧ Hid (Below w.heap.size w wr)) (fun _ iv _ => n - (intOf iv).toNat)
  case atStart => exact ⟨0, 3, rfl, rfl, by omega, by omega, rfl, fun s h => by simp at h, Below.refl _ _⟩
  case round =>
    obtain ⟨j, L, rfl, rfl, hj, hL, hQ, hT, hB⟩ := hrel
    by_cases hjl : j < n
    · obtain ⟨s, hsj⟩ : ∃ s, ps[j]? = some s := ⟨ps[j]'(by rw [← HN.out]; exact hjl), List.getElem?_eq_getElem _⟩
      have hmem := List.mem_of_getElem? hsj
      have hs5 := HS.out s hmem
      obtain ⟨b5, o5, rfl, hb5, hc5⟩ := ((unhide HA).below hB.out).at1v (i := j) (u := .string s) (by rw [List.getElem?_map, hsj]; rfl)
      have HF1 := Lib.hid (HF.out s hmem)
      have HSJ := Lib.hid hsj
      have HTS : Hid (totB (ps.take (j + 1)) = totB (ps.take j) + s.size) := Lib.hid (totB_step hsj)
      have HSS := Lib.hid hmem
      clear hsj hmem
      by_cases hbig : 131072 < L + s.size
      · have HR : Hid (compB F k ps = ⟨#[]⟩) := Lib.hid (compB_big (by have h1 := totB_le ps (j + 1); have h2 := HTS.out; have h3 := hQ.out; omega))
        clear hQ
        go_wp2_with fail
        go_ret
        exact ⟨by rw [HR.out]; rfl, hB.out⟩
      · have hle : L + s.size ≤ 131072 := by omega
        clear hbig
        go_wp2_with fail
        refine (HF1.out _).mono ?_
        rintro e w4 ⟨rfl, hb4⟩
        have HB4 := hide (hB.out.trans (hb4.mono hB.out.size))
        clear hb4
        cases hFs : F s
        · have HR : Hid (compB F k ps = ⟨#[]⟩) := Lib.hid (compB_bad HSS.out hFs)
          clear hQ
          go_wp2_with fail
          go_ret
          exact ⟨by rw [HR.out]; rfl, unhide HB4⟩
        · have HT2 : Hid (∀ s ∈ ps.take (j + 1), F s = true) := Lib.hid fun x hx => by
            rw [List.take_add_one, HSJ.out] at hx
            rcases List.mem_append.1 hx with hx | hx
            · exact hT.out x hx
            · simp at hx; subst hx; exact hFs
          have HQ2 : Hid (L + s.size = 3 + totB (ps.take (j + 1))) := Lib.hid (by rw [HTS.out, hQ.out]; omega)
          clear hQ hFs
          go_wp2_with fail
          go_roundw
          case rel => exact ⟨j + 1, L + s.size, by go_num, by go_num, by omega, by omega, HQ2.out, HT2.out, unhide HB4⟩
          case measure => simp [intOf]; omega
    · obtain ⟨w3, hmk, hO3, hG3⟩ := run_makeSlice_owned (P := Tryz.prog) wr w.heap.size 81 5 i0 (.int .u8 0) 1 Tryz.underlying81 hi0 hiz0 hiz1 .i64 .i64 L (by omega) (by rw [hiz2]; omega) (by unfold maxLen; omega) hB.out.size
      have HB3 := hide (below_row (v := .slice none 0 0) hB.out hG3 (fun j q => by simp [Value.ownBlock] at q))
      have HO3 := hide hO3
      clear hO3 hG3
      have HR : Hid (compB F k ps = ⟨(encL k ps).toArray⟩) := Lib.hid (compB_good (by have := hT.out; rwa [List.take_of_length_le (by rw [← HN.out]; omega)] at this) (by have h := hQ.out; rw [List.take_of_length_le (by rw [← HN.out]; omega)] at h; omega))
      have HTOT : Hid (3 + totB ps ≤ 131072) := Lib.hid (by have h := hQ.out; rw [List.take_of_length_le (by rw [← HN.out]; omega)] at h; omega)
      clear hT hQ
      go_wp2_with (at_builtin; refine wpList_app _ rfl _ _ 81 rfl w.heap.size 5 i0 _ 1 1 Tryz.underlying81 hi0 hiz0 hiz1 hiz2 rfl (by decide) _ 0 [] rfl ((unhide HO3).alloc _) (some ⟨w3.heap.size, 0, none⟩) 3 3 [.int .u8 (k.toNat : Int), .int .u8 ((n : Int) / 256 % 256), .int .u8 ((n : Int) % 256)] rfl rfl (new_in w3 5 #[.int .u8 (k.toNat : Int), .int .u8 ((n : Int) / 256 % 256), .int .u8 ((n : Int) % 256)]) (by intro x hx; simp at hx; rcases hx with rfl | rfl | rfl <;> rfl) (by unfold maxLen; omega) (by omega) (by have := (unhide HB3).size; simp; omega) ?_; intro v4 w4 hown4 hgrow4 _)
      rw [Nat.zero_add, List.nil_append, ← codeL_zero k ps n HN.out] at hown4
      have HB4 := hide (below_app ((unhide HB3).alloc (unhide HB3).size _) ((unhide HO3).alloc _) hgrow4)
      have HO4 : Hid (w4.ownsRow w.heap.size 5 1 v4 (codeL k ps 0).length (bCells (codeL k ps 0))) := hide hown4
      clear hown4 hgrow4 HB3 HO3 hmk
      go_wp2_with fail
      go_loopw [8, 43] (fun cv iv wr => ∃ j M : Nat, iv = .int .i64 j ∧ j ≤ n ∧ M ≤ 131072 ∧ Hid (M = (codeL k ps j).length) ∧ Hid (wr.ownsRow w.heap.size 5 1 cv M (bCells (codeL k ps j))) ∧ Hid (Below w.heap.size w wr)) (fun _ iv _ => n - (intOf iv).toNat)
      case atStart => exact ⟨0, 3, rfl, by omega, by omega, rfl, unhide HO4, unhide HB4⟩
      case round =>
        obtain ⟨i, M, rfl, hi, hM, hL9, hO, hB9⟩ := hrel
        by_cases hil : i < n
        · obtain ⟨s, hsj⟩ : ∃ s, ps[i]? = some s := ⟨ps[i]'(by rw [← HN.out]; exact hil), List.getElem?_eq_getElem _⟩
          obtain ⟨b5, o5, rfl, hb5, hc5⟩ := ((unhide HA).below hB9.out).at1v (i := i) (u := .string s) (by rw [List.getElem?_map, hsj]; rfl)
          have HST := Lib.hid (codeL_step (k := k) hsj)
          have hsz : M + s.size ≤ 131072 := by have h1 := totB_step hsj; have h2 := totB_le ps (i + 1); have h3 := HTOT.out; have h4 := hL9.out; rw [codeL_len] at h4; omega
          have HL2 : Hid (M + s.size = (codeL k ps (i + 1)).length) := Lib.hid (by have h1 := totB_step hsj; have h4 := hL9.out; rw [codeL_len] at h4 ⊢; omega)
          obtain ⟨A6, c6, rfl⟩ := owns_form hO.out
          have hbz := hB9.out.size
          clear hsj hL9
          go_wp2_with (at_builtin; refine Go.Lib.wpList_append_own_string _ rfl _ _ 81 23 rfl w.heap.size 5 i0 Tryz.underlying81 Tryz.underlying23 hi0 hiz0 hiz1 hiz2 _ M _ rfl hO.out s rfl (by unfold maxLen; omega) (by omega) hbz ?_; intro v7 w7 hown7 hgrow7 _)
          rw [← HST.out] at hown7
          have HB7 := hide (below_app hB9.out hO.out hgrow7)
          have HO7 := hide hown7
          clear hown7 hgrow7
          go_roundw
          case rel => exact ⟨i + 1, M + s.size, by go_num, by omega, by omega, HL2.out, unhide HO7, unhide HB7⟩
          case measure => simp [intOf]; omega
        · have hce : codeL k ps i = encL k ps := codeL_all k ps (by rw [← HN.out]; omega)
          have hM3 : 3 ≤ M := by have h4 := hL9.out; rw [codeL_len] at h4; omega
          obtain ⟨g, cap, rfl, hbg, hg, hnc, hcell⟩ := owns_cell hO.out (by omega)
          have hcv := run_convert_bytes_back (P := Tryz.prog) wr 81 23 5 ⟨g, 0, none⟩ cap (encL k ps) Tryz.underlying81 Tryz.underlying5 Tryz.underlying23 (fun q hq => by
            rw [add_at, Nat.zero_add]
            refine hcell q _ ?_
            rw [hce]
            unfold bCells
            rw [List.getElem?_map, List.getElem?_eq_getElem hq]; rfl)
          have HCE := Lib.hid hce
          rw [← hce, ← hL9.out] at hcv
          clear hce hL9 hcell
          go_wp2_with fail
          go_ret
          exact ⟨by rw [HR.out, ← HCE.out]; rfl, hB9.out⟩

end Go.Proofs.YtdifpemohdnolaaGreat
