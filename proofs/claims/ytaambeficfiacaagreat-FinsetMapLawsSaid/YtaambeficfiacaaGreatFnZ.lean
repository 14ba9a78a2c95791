/- Keys of both sides. Conditions: strings of at most 2^48 bytes. -/
-- by tools/gen_fnz.py
import Derived.Test.YtaambeficfiacaaGreatFnY
namespace Go.Proofs.YtaambeficfiacaaGreat
open Go.RowKit Go.Shelf VM

theorem ev_size (x : ByteArray) : ∀ s ∈ evB (pt x), s.size ≤ 131072 := fun s h => pt_size x s ((ev_sub _).subset h)
theorem od_size (x : ByteArray) : ∀ s ∈ odB (pt x), s.size ≤ 131072 := fun s h => pt_size x s ((od_sub _).subset h)
theorem ev_le (x : ByteArray) : (evB (pt x)).length ≤ 65536 := Nat.le_trans (ev_sub _).length_le (pt_len x)
theorem od_le (x : ByteArray) : (odB (pt x)).length ≤ 65536 := Nat.le_trans (od_sub _).length_le (pt_len x)
def keysM (x : ByteArray) : ByteArray × Int := if isK 6 x = true then bnd (evB (pt x)) else (⟨#[]⟩, 6)
theorem kind_map {x : ByteArray} (h : isK 6 x = true) : kindM x = 6 := by
  have := kind_isK (s := x) (k := 6) (by decide)
  rw [h] at this
  simpa using this
theorem kind_nomap {x : ByteArray} (h : isK 6 x = false) : ¬ kindM x = 6 := by
  have := kind_isK (s := x) (k := 6) (by decide)
  rw [h] at this
  simpa using this
set_option linter.unusedSimpArgs false in
set_option maxRecDepth 100000 in
set_option maxHeartbeats 6400000 in
theorem pKeys_any (x : ByteArray) (hx : x.size ≤ 281474976710656) (w : World) :
    Calls Tryz.prog 56 #[.string x] w (RetV w (keysM x)) := by
  have HX := hide (isMap_any x hx w)
  cases h5 : isK 6 x with
  | false =>
    have HR : Hid (keysM x = (⟨#[]⟩, 6)) := Lib.hid (by unfold keysM; rw [h5]; rfl)
    rw [h5] at HX
    clear h5
    go_enter Tryz.func56, Tryz.ntmps56
    go_wp2_with fail
    refine (unhide HX).mono ?_
    rintro e w1 ⟨rfl, hb1⟩
    have HB1 := hide hb1
    clear hb1
    go_wp2_with fail
    go_ret2
    exact ⟨by rw [HR.out]; rfl, unhide HB1⟩
  | true =>
    rw [h5] at HX
    have HR : Hid (keysM x = bnd (evB (pt x))) := Lib.hid (by unfold keysM; rw [if_pos h5])
    have hpm := pt_map h5
    have HPR := Lib.hid (fun w => ppairs_any x hx hpm.2.1 w)
    have HLX := Lib.hid (ev_le x)
    have HCO := Lib.hid (fun Bs A n c hn w hBs hc hI => coll_any Bs A n c (evB (pt x)) (ev_size x) (fun _ => asc_nodup hpm.1) (by have := ev_le x; omega) hn w hBs hc hI)
    generalize evB (pt x) = ke at *
    generalize odB (pt x) = od at *
    generalize keysM x = r at *
    generalize bnd ke = rr at *
    clear h5 hpm
    go_enter Tryz.func56, Tryz.ntmps56
    go_wp2_with fail
    refine (unhide HX).mono ?_
    rintro e w1 ⟨rfl, hb1⟩
    have HB1 := hide hb1
    clear hb1
    go_wp2_with fail
    refine (HPR.out _).mono ?_
    rintro e w5 ⟨S5, S6, c5, c6, n5, n6, rfl, hn5, hn6, hT⟩
    have HB5 := hide ((unhide HB1).trans (hT.below.mono (unhide HB1).size))
    have HN5 := Lib.hid hn5
    have hnb : n5 ≤ 65536 := by rw [hn5]; exact HLX.out
    have HI5 := hide (InC.own hT.ok)
    clear hn5 hn6 hT
    go_wp2_with fail
    refine (vals_any S5 n5 c5 w5).mono ?_
    rintro e w6 ⟨rfl, rfl⟩
    have HCC := hide (HCO.out w5.heap.size S5 n5 c5 HN5.out (w5.alloc (.cells #[.slice S5 n5 c5] 33)) (by simp) ((Blk.new w5 33 #[.slice S5 n5 c5]).cell 0) ((unhide HI5).alloc _))
    have HB6 := hide ((unhide HB5).alloc (unhide HB5).size (.cells #[.slice S5 n5 c5] 33))
    go_wp2_with fail
    refine (unhide HCC).mono ?_
    rintro e w7 ⟨rfl, hb7⟩
    have HB7 := hide ((unhide HB6).trans (hb7.mono (unhide HB6).size))
    clear hb7
    go_wp2_with fail
    go_ret2
    exact ⟨by rw [HR.out]; rfl, unhide HB7⟩
set_option linter.unusedSimpArgs false in
set_option maxRecDepth 100000 in
set_option maxHeartbeats 6400000 in
theorem rKeys_any (x : ByteArray) (hx : x.size ≤ 281474976710656) (w : World) :
    Calls Tryz.prog 57 #[.string x] w (RetV w (keysM x)) := by
  have HX := hide (rkind_any x hx w)
  cases h5 : isK 6 x with
  | false =>
    have HR : Hid (keysM x = (⟨#[]⟩, 6)) := Lib.hid (by unfold keysM; rw [h5]; rfl)
    have hk6 := kind_nomap h5
    generalize kindM x = kk at *
    clear h5
    go_enter Tryz.func57, Tryz.ntmps57
    go_wp2_with fail
    refine (unhide HX).mono ?_
    rintro e w1 ⟨rfl, hb1⟩
    have HB1 := hide hb1
    clear hb1
    go_wp2_with fail
    go_ret2
    exact ⟨by rw [HR.out]; rfl, unhide HB1⟩
  | true =>
    rw [kind_map h5] at HX
    have HR : Hid (keysM x = bnd (evB (pt x))) := Lib.hid (by unfold keysM; rw [if_pos h5])
    have hpm := pt_map h5
    have HPR := Lib.hid (fun w => rkeyed_any x hx hpm.2.1 w)
    have HLX := Lib.hid (ev_le x)
    have HBN := Lib.hid (fun A n c w hn hr => rbounded_any (evB (pt x)) A n c w hn (by have := ev_le x; omega) (fun s hs => by have := ev_size x s hs; omega) hr)
    generalize evB (pt x) = ke at *
    generalize odB (pt x) = od at *
    generalize keysM x = r at *
    generalize bnd ke = rr at *
    clear h5 hpm
    go_enter Tryz.func57, Tryz.ntmps57
    go_wp2_with fail
    refine (unhide HX).mono ?_
    rintro e w1 ⟨rfl, hb1⟩
    have HB1 := hide hb1
    clear hb1
    go_wp2_with fail
    refine (HPR.out _).mono ?_
    rintro e w5 ⟨S5, S6, c5, c6, n5, n6, rfl, hn5, hn6, hT⟩
    have HB5 := hide ((unhide HB1).trans (hT.below.mono (unhide HB1).size))
    have HN5 := Lib.hid hn5
    have hnb : n5 ≤ 65536 := by rw [hn5]; exact HLX.out
    have HI5 := hide (InC.own hT.ok)
    clear hn5 hn6 hT
    go_wp2_with fail
    refine (HBN.out _ _ _ _ HN5.out (unhide HI5)).mono ?_
    rintro e w7 ⟨rfl, hb7⟩
    have HB7 := hide ((unhide HB5).trans (hb7.mono (unhide HB5).size))
    clear hb7
    go_wp2_with fail
    go_ret2
    exact ⟨by rw [HR.out]; rfl, unhide HB7⟩

end Go.Proofs.YtaambeficfiacaaGreat
