/- slices.Backward over a slice of slices of strings, as an iterator. No conditions but a length. -/
import Derived.Test.YtkdlmgahkckjbaaGreatFpP
import Derived.Test.YtkdlmgahkckjbaaGreatFnE
namespace Go.Proofs.YtkdlmgahkckjbaaGreat
open Go.RowKit Go.Shelf VM

/-- a slice: its address, length, capacity -/
abbrev SV := Option Addr × Nat × Nat
def sv0 : SV := (none, 0, 0)
def svV (s : SV) : Value := .slice s.1 s.2.1 s.2.2
/-- a factor's place -/
abbrev Ix (len : Nat) := { i : Nat // i < len }
/-- what Backward has handed on after k rounds -/
def uptoW (len : Nat) : Nat → List (Ix len)
  | 0 => []
  | k + 1 => uptoW len k ++ (if h : k < len then [⟨len - 1 - k, by omega⟩] else [])
theorem uptoW_succ {len k q : Nat} (h : q < len) (hk : k = len - 1 - q) : uptoW len (k + 1) = uptoW len k ++ [⟨q, h⟩] := by
  subst hk
  show uptoW len _ ++ _ = _
  rw [dif_pos (by omega)]
  congr 2
  exact Subtype.ext (by show len - 1 - (len - 1 - q) = q; omega)
theorem uptoW_len {len : Nat} : ∀ {k : Nat}, k ≤ len → (uptoW len k).length = k
  | 0, _ => rfl
  | k + 1, h => by
    show (uptoW len k ++ _).length = _
    rw [dif_pos (by omega), List.length_append, uptoW_len (by omega)]; rfl
set_option maxRecDepth 100000 in
set_option maxHeartbeats 4000000 in
theorem bw1_in (F : Fence) (n : Nat) (h7 : F.fn 66) (hro : F.round = none) (hn : 1 ≤ n) (l Bs b off len cap : Nat) (Pr : Nat → Prop) (zs : List SV) (hlen : len < 1152921504606846976) (hb : Pr b) (hBn : Pr Bs) (J Jx : List (Ix len) → World → Prop)
    (hY : ∀ pre x W, J pre W → pre.length < len → YieldAt F (n - 1) Tryz.prog l #[.int .i64 (x.1 : Int), svV (zs[x.1]?.getD sv0)] W fun e W' =>
      (e = .returned (.bool true) ∧ J (pre ++ [x]) W' ∧ Keep Pr W W') ∨ (e = .returned (.bool false) ∧ Jx (pre ++ [x]) W'))
    (W : World) (hBs : W.cell? ⟨Bs, 0, none⟩ = some (.slice (some ⟨b, off, none⟩) len cap)) (hc : ∀ j, j < len → W.cell? ⟨b, off + j, none⟩ = some (svV (zs[j]?.getD sv0))) (h0 : J [] W) :
    CallsIn F n Tryz.prog 66 #[.func (.yield l) #[] #[], .pointer (some ⟨Bs, 0, none⟩)] W fun e W' => (∃ v, e = .returned v) ∧
      ((∃ ys, ys = uptoW len len ∧ J ys W') ∨ (∃ pre, (∃ k, k ≤ len ∧ pre = uptoW len k) ∧ Jx pre W')) := by
  refine callsIn_of_wp Tryz.func66 rfl h7 ?_ hro
  simp only [Tryz.ntmps66, List.size_toArray, List.length_cons, List.length_nil, Nat.reduceAdd, Nat.reduceSub, Array.replicate_succ, Array.replicate_zero, List.push_toArray, List.append_toArray, List.nil_append, List.cons_append]
  gi_wp2
  gi_loopw [3] (fun i wr => ∃ (k : Nat) (z : Int), k ≤ len ∧ i = .int .i64 z ∧ Hid (z = (len : Int) - 1 - (k : Int)) ∧ J (uptoW len k) wr ∧ Keep Pr W wr)
    (fun i _ => (intOf i + 1).toNat)
  case atStart => exact ⟨0, _, Nat.zero_le _, rfl, Lib.hid (by omega), h0, Keep.refl _ _⟩
  case round =>
    obtain ⟨k, z, hk, rfl, hz, hJs, hnx⟩ := hrel
    have hBs1 : wr.cell? ⟨Bs, 0, none⟩ = some (.slice (some ⟨b, off, none⟩) len cap) := (hnx.cell hBn 0).trans hBs
    by_cases hlt : k < len
    · obtain ⟨q, rfl⟩ : ∃ q : Nat, z = (q : Int) := ⟨z.toNat, by have := hz.out; omega⟩
      have hq : q < len := by have := hz.out; omega
      have hcx' : wr.cell? ⟨b, off + q, none⟩ = some (svV (zs[q]?.getD sv0)) := (hnx.cell hb (off + q)).trans (hc q hq)
      have hus : uptoW len (k + 1) = uptoW len k ++ [⟨q, hq⟩] := uptoW_succ hq (by have := hz.out; omega)
      have hY2 := hY _ ⟨q, hq⟩ wr hJs (by rw [uptoW_len hk]; exact hlt)
      change YieldAt F (n - 1) Tryz.prog l #[.int .i64 (q : Int), svV (zs[q]?.getD sv0)] wr _ at hY2
      generalize zs[q]?.getD sv0 = x at *
      obtain ⟨xa, xn, xc⟩ := x
      change YieldAt F (n - 1) Tryz.prog l #[.int .i64 (q : Int), .slice xa xn xc] wr _ at hY2
      obtain ⟨fn, tmps, assign, body, hy, hR⟩ := hY2
      change wr.cell? ⟨b, off + q, none⟩ = some (.slice xa xn xc) at hcx'
      have gw : IntKind.i64.wrap ((q : Int) - 1) = (q : Int) - 1 := IntWalk.i64_in _ (by omega)
      gi_wp2
      refine hR.mono ?_
      rintro e W3 (⟨rfl, hJ3, hk3⟩ | ⟨rfl, hJx3⟩)
      · gi_wp2
        go_roundw
        case rel => exact ⟨k + 1, (q : Int) - 1, by omega, rfl, Lib.hid (by have := hz.out; omega), by rw [hus]; exact hJ3, hnx.trans hk3⟩
        case measure => simp [intOf]
      · gi_wp2
        refine bodyPost_ret (results_none rfl _ _ _) rfl ?_
        exact ⟨⟨_, rfl⟩, .inr ⟨_, ⟨k + 1, by omega, hus.symm⟩, hJx3⟩⟩
    · obtain rfl : k = len := by omega
      obtain rfl : z = -1 := by have := hz.out; omega
      gi_wp2
      go_end0
      exact ⟨⟨_, rfl⟩, .inl ⟨_, rfl, hJs⟩⟩
set_option maxHeartbeats 1000000 in
theorem bw_any (a : Option Addr) (len cap : Nat) (w : World) :
    Calls Tryz.prog 45 #[.slice a len cap] w fun e w' => e = .returned (.func (.func 66) #[] #[.pointer (some ⟨w.heap.size, 0, none⟩)]) ∧ w' = w.alloc (.cells #[.slice a len cap] 44) := by
  refine (callsIn_wide (n := 1)).1 (callsIn_of_wp Tryz.func45 rfl trivial ?_ rfl)
  simp only [Tryz.ntmps45, List.size_toArray, List.length_cons, List.length_nil, Nat.reduceAdd, Nat.reduceSub, Array.replicate_succ, Array.replicate_zero, List.push_toArray, List.append_toArray, List.nil_append, List.cons_append]
  gi_wp2
  go_ret
  exact ⟨rfl, rfl⟩

end Go.Proofs.YtkdlmgahkckjbaaGreat
