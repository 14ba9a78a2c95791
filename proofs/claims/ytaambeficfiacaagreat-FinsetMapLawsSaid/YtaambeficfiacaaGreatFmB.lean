/- The program's paired, Update and Delete. Conditions: strings of at most 2^48 bytes. -/
-- by tools/gen_fmb.py
import Derived.Shelf.SlicesG.Delete
import Derived.Test.YtaambeficfiacaaGreatFmA
namespace Go.Proofs
open Go.Shelf
def Tryz.deleteV_ren : Go.Shelf.Ren := ⟨fun | 46 => 69 | n => n, fun | 25 => 33 | 26 => 22 | 3 => 3 | 4 => 4 | 0 => 0 | n => n, fun | n => n⟩
theorem Tryz.deleteV : Go.Proofs.SlLaysN.n46 Tryz.prog Tryz.deleteV_ren := {
  mixed := by kernel_rfl
  f46 := ⟨Tryz.f69.name, by decide, Tryz.func69.trans (congrArg some (by kernel_rfl))⟩
  t0 := Tryz.underlying0
  a0 := Tryz.isAgg0
  z0 := Tryz.sizeOf0
  v0 := Tryz.zeroValue0
  t3 := Tryz.underlying3
  a3 := Tryz.isAgg3
  z3 := Tryz.sizeOf3
  v3 := Tryz.zeroValue3
  t4 := Tryz.underlying4
  a4 := Tryz.isAgg4
  z4 := Tryz.sizeOf4
  v4 := Tryz.zeroValue4
  t25 := Tryz.underlying33
  a25 := Tryz.isAgg33
  z25 := Tryz.sizeOf33
  v25 := Tryz.zeroValue33
  t26 := Tryz.underlying22
  a26 := Tryz.isAgg22
  z26 := Tryz.sizeOf22
  v26 := Tryz.zeroValue22
  i26 := by kernel_rfl }
end Go.Proofs
namespace Go.Proofs.YtaambeficfiacaaGreat
open Go.RowKit Go.Shelf VM

/-- an own row that is not empty: its cells, and what a store into it leaves -/
theorem own_at {w : World} {base n c j : Nat} {A : Option Addr} {vs : List ByteArray} (hO : w.ownsRow base 22 1 (.slice A n c) n (vs.map Value.string)) (hj : j < n) :
    ∃ g, A = some ⟨g, 0, none⟩ ∧ base ≤ g ∧ (∃ u, vs[j]? = some u ∧ w.cell? ⟨g, j, none⟩ = some (.string u)) ∧ w.frozen? ⟨g, j, none⟩ = false ∧
      ∀ v, InC (w.setCell ⟨g, j, none⟩ (.string v)) (some ⟨g, 0, none⟩) ((vs.set j v).map Value.string) := by
  have hl := hO.1
  rcases hO.2 with ⟨_, h0⟩ | ⟨g, cap, cur, hv, hb, hg, h1, h2, hsz, htk⟩
  · omega
  · injection hv with e1 e2 e3
    subst e1
    have hB : Blk w g 22 cur := hg
    have hcur : ∀ i u, (vs.map Value.string)[i]? = some u → cur[i]? = some u := fun i u hu => by
      rw [← htk, List.getElem?_take] at hu
      split at hu
      · simpa using hu
      · cases hu
    have hjl : j < vs.length := by rw [List.length_map] at hl; omega
    refine ⟨g, rfl, hb, ⟨vs[j], List.getElem?_eq_getElem hjl, ?_⟩, hB.frozen j, fun v => .inr ⟨g, 0, rfl, (hB.set_ j _).lt, fun i u hu => ?_⟩⟩
    · rw [hB.cell]
      exact hcur j _ (by rw [List.getElem?_map, List.getElem?_eq_getElem hjl]; rfl)
    · rw [Nat.zero_add, (hB.set_ j _).cell]
      rw [List.map_set, List.getElem?_set] at hu
      rw [Array.getElem?_setIfInBounds]
      have hlen := (List.getElem?_eq_some_iff.1 (hcur j _ (by rw [List.getElem?_map, List.getElem?_eq_getElem hjl]; rfl) |> fun q => by simpa using q : cur.toList[j]? = some _)).1
      by_cases e : j = i
      · subst e
        rw [if_pos rfl] at hu ⊢
        rw [if_pos (by simpa using hlen)]
        split at hu
        · exact hu
        · cases hu
      · rw [if_neg e] at hu ⊢
        exact hcur i u hu
theorem del_any (ks : List ByteArray) (base n c j : Nat) (A : Option Addr) (w : World) (hO : w.ownsRow base 22 1 (.slice A n c) n (ks.map Value.string)) (hj : j < n) (J : Int) (hJ : J = ((j + 1 : Nat) : Int)) :
    Calls Tryz.prog 69 #[.slice A n c, .int .i64 (j : Int), .int .i64 J] w fun e w' => e = .returned (.slice A (n - 1) c) ∧ InC w' A ((ks.eraseIdx j).map Value.string) ∧ w.grownBy w' (Value.slice A n c).ownBlock := by
  subst hJ
  have hl := hO.1
  rw [List.length_map, Nat.mul_one] at hl
  rcases hO.2 with ⟨_, h0⟩ | ⟨g, cap, cur, hv, hb, hg, h1, h2, hsz, htk⟩
  · omega
  · injection hv with e1 e2 e3
    subst e1 e3
    have hB : Blk w g 22 cur := hg
    obtain ⟨zs, hzs⟩ : ∃ zs, zs = ks.map fun s => s.data.toList := ⟨_, rfl⟩
    have hzl : zs.length = n := by rw [hzs, List.length_map]; exact hl
    have hen : ∀ i u, zs[i]? = some u → (ks.map Value.string)[i]? = some (encStr u) := fun i u hu => by
      rw [hzs, List.getElem?_map] at hu
      obtain ⟨s, hs, rfl⟩ := Option.map_eq_some_iff.1 hu
      rw [List.getElem?_map, hs]
      rfl
    have hH : Sort.Holds encStr w g 0 zs.toArray := fun i hi => by
      have hi2 : i < zs.length := by simpa using hi
      refine ⟨?_, hB.frozen _⟩
      rw [Nat.zero_add, hB.cell]
      have hq := hen i _ (List.getElem?_eq_getElem hi2)
      rw [← htk, List.getElem?_take] at hq
      split at hq
      · rw [getElem!_pos zs.toArray i hi]
        simpa using hq
      · cases hq
    have h := AnyG.slices_Delete_string Tryz.deleteV g 0 c j (j + 1) zs w hH (by omega) (by unfold maxLen at h2; omega) (by omega) (by omega)
    rw [hzl] at h
    refine h.mono ?_
    rintro e w' ⟨rfl, q, rfl⟩
    refine ⟨by rw [show j + 1 - j = 1 by omega], .inr ⟨g, 0, rfl, by simpa [Sort.ahead] using hB.lt, fun i u hu => ?_⟩, ⟨rfl, rfl, rfl, by simp [Sort.ahead], fun k hk hne => ?_⟩⟩
    · have hil : i < (ks.eraseIdx j).length := by have := (List.getElem?_eq_some_iff.1 hu).1; simpa using this
      have hle : (ks.eraseIdx j).length = n - 1 := by rw [List.length_eraseIdx, if_pos (by omega), hl]
      have hsz2 : (zs.take j ++ zs.drop (j + 1) ++ List.replicate (j + 1 - j) ([] : List UInt8)).toArray.size = zs.toArray.size := by simp; omega
      have hlt : i < (zs.take j ++ zs.drop (j + 1) ++ List.replicate (j + 1 - j) ([] : List UInt8)).toArray.size := by rw [hsz2]; simp; omega
      rw [Sort.cell?_putRow encStr (Sort.ahead w q) g 0 zs.toArray _ hH hsz2 i hlt, getElem!_pos (zs.take j ++ zs.drop (j + 1) ++ List.replicate (j + 1 - j) ([] : List UInt8)).toArray i hlt]
      have he : zs.take j ++ zs.drop (j + 1) = (ks.eraseIdx j).map fun s => s.data.toList := by rw [List.eraseIdx_eq_take_drop_succ, List.map_append, List.map_take, List.map_drop, hzs]
      rw [List.getElem?_map, List.getElem?_eq_getElem hil] at hu
      rw [← hu]
      have hx : (zs.take j ++ zs.drop (j + 1) ++ List.replicate (j + 1 - j) ([] : List UInt8)).toArray[i] = (ks.eraseIdx j)[i].data.toList := by
        simp only [List.getElem_toArray]
        rw [List.getElem_append_left (by rw [he, List.length_map]; exact hil)]
        simp only [he, List.getElem_map]
      rw [hx]
      rfl
    · have hkg : k ≠ g := fun e => hne (by subst e; rfl)
      show ((Sort.putRow encStr (Sort.ahead w q) g 0 _).heap)[k]? = _
      unfold Sort.putRow Sort.mapBlock
      rw [Array.getElem?_modify, if_neg (fun e => hkg e.symm)]
      rfl

/-- what paired returns -/
def pairM (ks vs : List ByteArray) : ByteArray × Int := if 4096 < ks.length then (⟨#[]⟩, 9) else if mapM ks vs = ⟨#[]⟩ then (⟨#[]⟩, 9) else (mapM ks vs, 0)
set_option linter.unusedSimpArgs false in
set_option maxRecDepth 100000 in
set_option maxHeartbeats 6400000 in
theorem paired_any (ks vs : List ByteArray) (A B : Option Addr) (n m ca cb : Nat) (w : World) (hn : n = ks.length) (hm : m = vs.length) (hn1 : n ≤ 131072) (hm1 : m ≤ 131072) (hks : ∀ s ∈ ks, s.size ≤ 281474976710656) (hvs : ∀ s ∈ vs, s.size ≤ 281474976710656)
    (hr : InC w A (ks.map Value.string)) (hr2 : InC w B (vs.map Value.string)) :
    Calls Tryz.prog 68 #[.slice A n ca, .slice B m cb] w (RetV w (pairM ks vs)) := by
  have HM := hide (pmap_any ks vs A B n m ca cb w hn hm (by omega) (by omega) (fun _ => by omega) hks hvs hr hr2)
  rw [map_same] at HM
  by_cases h1 : 4096 < n
  · have HR : Hid (pairM ks vs = (⟨#[]⟩, 9)) := Lib.hid (by unfold pairM; rw [if_pos (by omega)])
    generalize pairM ks vs = r at *
    clear hn hm hks hvs hr hr2 HM
    go_enter Tryz.func68, Tryz.ntmps68
    go_wp2_with fail
    go_ret2
    exact ⟨by rw [HR.out]; rfl, Below.refl _ _⟩
  · have HR : Hid (pairM ks vs = if mapM ks vs = ⟨#[]⟩ then (⟨#[]⟩, 9) else (mapM ks vs, 0)) := Lib.hid (by unfold pairM; rw [if_neg (by omega)])
    generalize pairM ks vs = r at *
    generalize mapM ks vs = q at *
    clear hn hm hks hvs hr hr2
    by_cases hq : q = ⟨#[]⟩
    · have HR2 : Hid (r = (⟨#[]⟩, 9)) := Lib.hid (by rw [HR.out, if_pos hq])
      subst hq
      go_enter Tryz.func68, Tryz.ntmps68
      go_wp2_with fail
      refine (unhide HM).mono ?_
      rintro e w1 ⟨rfl, hb1⟩
      have HB1 := hide hb1
      clear hb1
      go_wp2_with fail
      go_ret2
      exact ⟨by rw [HR2.out]; rfl, unhide HB1⟩
    · have HR2 : Hid (r = (q, 0)) := Lib.hid (by rw [HR.out, if_neg hq])
      have hl : q.toList.isEmpty = false := by
        rw [Bool.eq_false_iff]
        intro h
        have := isEmpty_toList q
        rw [List.isEmpty_iff.1 h, decide_eq_false hq] at this
        cases this
      go_enter Tryz.func68, Tryz.ntmps68
      go_wp2_with fail
      refine (unhide HM).mono ?_
      rintro e w1 ⟨rfl, hb1⟩
      have HB1 := hide hb1
      clear hb1
      go_wp2_with fail
      go_ret2
      exact ⟨by rw [HR2.out]; rfl, unhide HB1⟩

end Go.Proofs.YtaambeficfiacaaGreat
