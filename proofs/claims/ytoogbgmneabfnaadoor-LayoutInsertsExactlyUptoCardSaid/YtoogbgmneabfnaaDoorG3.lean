/- The library functions that the lexer calls, taken by their contracts. No conditions of our own. What the lexer's isKeyword, integerToken, wordToken return. What the lexer's integerToken, wordToken and item return, for strings of at most 65536 bytes. -/
import Derived.Shelf.Strconv.ErrVarParseInt
import Derived.Test.YtoogbgmneabfnaaDoorProg
import Derived.Test.YtoogbgmneabfnaaDoorG2
namespace Go.Proofs
open Go.Shelf
def Tryd.laysC174_ren : Go.Shelf.Ren := ⟨fun | 174 => 64 | 247 => 66 | 245 => 67 | 287 => 69 | 279 => 70 | 280 => 71 | 281 => 72 | 282 => 73 | 321 => 74 | 322 => 75 | 316 => 76 | 171 => 78 | 205 => 77 | 243 => 79 | 246 => 80 | 283 => 81 | 284 => 82 | 285 => 83 | 286 => 84 | 129 => 86 | 317 => 85 | 318 => 87 | 319 => 88 | 320 => 89 | 337 => 90 | 338 => 91 | n => n, fun | 9 => 9 | 3 => 3 | 2 => 2 | 75 => 82 | 85 => 83 | 4 => 4 | 167 => 87 | 5 => 5 | 53 => 88 | 175 => 89 | 46 => 70 | 168 => 91 | 37 => 95 | 0 => 0 | 210 => 97 | 21 => 21 | 127 => 100 | 145 => 103 | 143 => 101 | 171 => 105 | 173 => 108 | 212 => 111 | 51 => 112 | 20 => 20 | 213 => 113 | 232 => 117 | 233 => 118 | 80 => 119 | n => n, fun | 15 => 0 | 16 => 1 | 17 => 2 | 18 => 3 | 19 => 4 | n => n⟩
theorem Tryd.laysC174 : Go.Proofs.LaysC.n174 Tryd.prog Tryd.laysC174_ren := {
  mixed := by kernel_rfl
  f129 := Tryd.func86.trans (congrArg some (by kernel_rfl))
  f171 := Tryd.func78.trans (congrArg some (by kernel_rfl))
  f174 := Tryd.func64.trans (congrArg some (by kernel_rfl))
  f205 := Tryd.func77.trans (congrArg some (by kernel_rfl))
  f243 := Tryd.func79.trans (congrArg some (by kernel_rfl))
  f245 := Tryd.func67.trans (congrArg some (by kernel_rfl))
  f246 := Tryd.func80.trans (congrArg some (by kernel_rfl))
  f247 := Tryd.func66.trans (congrArg some (by kernel_rfl))
  f279 := Tryd.func70.trans (congrArg some (by kernel_rfl))
  f280 := Tryd.func71.trans (congrArg some (by kernel_rfl))
  f281 := Tryd.func72.trans (congrArg some (by kernel_rfl))
  f282 := Tryd.func73.trans (congrArg some (by kernel_rfl))
  f283 := Tryd.func81.trans (congrArg some (by kernel_rfl))
  f284 := Tryd.func82.trans (congrArg some (by kernel_rfl))
  f285 := Tryd.func83.trans (congrArg some (by kernel_rfl))
  f286 := Tryd.func84.trans (congrArg some (by kernel_rfl))
  f287 := Tryd.func69.trans (congrArg some (by kernel_rfl))
  f316 := Tryd.func76.trans (congrArg some (by kernel_rfl))
  f317 := Tryd.func85.trans (congrArg some (by kernel_rfl))
  f318 := Tryd.func87.trans (congrArg some (by kernel_rfl))
  f319 := Tryd.func88.trans (congrArg some (by kernel_rfl))
  f320 := Tryd.func89.trans (congrArg some (by kernel_rfl))
  f321 := Tryd.func74.trans (congrArg some (by kernel_rfl))
  f322 := Tryd.func75.trans (congrArg some (by kernel_rfl))
  f337 := Tryd.func90.trans (congrArg some (by kernel_rfl))
  f338 := Tryd.func91.trans (congrArg some (by kernel_rfl))
  t0 := Tryd.underlying0
  a0 := Tryd.isAgg0
  z0 := Tryd.sizeOf0
  v0 := Tryd.zeroValue0
  t2 := Tryd.underlying2
  a2 := Tryd.isAgg2
  z2 := Tryd.sizeOf2
  v2 := Tryd.zeroValue2
  t3 := Tryd.underlying3
  a3 := Tryd.isAgg3
  z3 := Tryd.sizeOf3
  v3 := Tryd.zeroValue3
  t4 := Tryd.underlying4
  a4 := Tryd.isAgg4
  z4 := Tryd.sizeOf4
  v4 := Tryd.zeroValue4
  t5 := Tryd.underlying5
  a5 := Tryd.isAgg5
  z5 := Tryd.sizeOf5
  v5 := Tryd.zeroValue5
  t9 := Tryd.underlying9
  a9 := Tryd.isAgg9
  z9 := Tryd.sizeOf9
  v9 := Tryd.zeroValue9
  t20 := Tryd.underlying20
  a20 := Tryd.isAgg20
  z20 := Tryd.sizeOf20
  v20 := Tryd.zeroValue20
  t21 := Tryd.underlying21
  a21 := Tryd.isAgg21
  z21 := Tryd.sizeOf21
  v21 := Tryd.zeroValue21
  t37 := Tryd.underlying95
  a37 := Tryd.isAgg95
  z37 := Tryd.sizeOf95
  v37 := Tryd.zeroValue95
  t46 := Tryd.underlying70
  a46 := Tryd.isAgg70
  z46 := Tryd.sizeOf70
  v46 := Tryd.zeroValue70
  t51 := Tryd.underlying112
  a51 := Tryd.isAgg112
  z51 := Tryd.sizeOf112
  v51 := Tryd.zeroValue112
  t53 := Tryd.underlying88
  a53 := Tryd.isAgg88
  z53 := Tryd.sizeOf88
  v53 := Tryd.zeroValue88
  t75 := Tryd.underlying82
  a75 := Tryd.isAgg82
  z75 := Tryd.sizeOf82
  v75 := Tryd.zeroValue82
  t85 := Tryd.underlying83
  a85 := Tryd.isAgg83
  z85 := Tryd.sizeOf83
  v85 := Tryd.zeroValue83
  t127 := Tryd.underlying100
  a127 := Tryd.isAgg100
  z127 := Tryd.sizeOf100
  v127 := Tryd.zeroValue100
  t143 := Tryd.underlying101
  a143 := Tryd.isAgg101
  z143 := Tryd.sizeOf101
  v143 := Tryd.zeroValue101
  t145 := Tryd.underlying103
  a145 := Tryd.isAgg103
  z145 := Tryd.sizeOf103
  v145 := Tryd.zeroValue103
  t167 := Tryd.underlying87
  a167 := Tryd.isAgg87
  z167 := Tryd.sizeOf87
  v167 := Tryd.zeroValue87
  t168 := Tryd.underlying91
  a168 := Tryd.isAgg91
  z168 := Tryd.sizeOf91
  v168 := Tryd.zeroValue91
  t171 := Tryd.underlying105
  a171 := Tryd.isAgg105
  z171 := Tryd.sizeOf105
  v171 := Tryd.zeroValue105
  t173 := Tryd.underlying108
  a173 := Tryd.isAgg108
  z173 := Tryd.sizeOf108
  v173 := Tryd.zeroValue108
  t175 := Tryd.underlying89
  a175 := Tryd.isAgg89
  z175 := Tryd.sizeOf89
  v175 := Tryd.zeroValue89
  t210 := Tryd.underlying97
  a210 := Tryd.isAgg97
  z210 := Tryd.sizeOf97
  v210 := Tryd.zeroValue97
  t212 := Tryd.underlying111
  a212 := Tryd.isAgg111
  z212 := Tryd.sizeOf111
  v212 := Tryd.zeroValue111
  t213 := Tryd.underlying113
  a213 := Tryd.isAgg113
  z213 := Tryd.sizeOf113
  t232 := Tryd.underlying117
  a232 := Tryd.isAgg117
  z232 := Tryd.sizeOf117
  v232 := Tryd.zeroValue117
  t233 := Tryd.underlying118
  a233 := Tryd.isAgg118
  z233 := Tryd.sizeOf118
  v233 := Tryd.zeroValue118
  g15 := by kernel_rfl
  g16 := by kernel_rfl
  g17 := by kernel_rfl
  g18 := by kernel_rfl
  g19 := by kernel_rfl
  t80 := Tryd.underlying119
  a80 := Tryd.isAgg119
  z80 := Tryd.sizeOf119
  v80 := Tryd.zeroValue119
  i0 := by kernel_rfl
  i2 := by kernel_rfl
  i3 := by kernel_rfl
  i4 := by kernel_rfl
  i5 := by kernel_rfl
  i9 := by kernel_rfl
  i20 := by kernel_rfl
  i21 := by kernel_rfl
  i37 := by kernel_rfl
  i46 := by kernel_rfl
  i51 := by kernel_rfl
  i53 := by kernel_rfl
  i75 := by kernel_rfl
  i80 := by kernel_rfl
  i85 := by kernel_rfl
  i127 := by kernel_rfl
  i143 := by kernel_rfl
  i145 := by kernel_rfl
  i167 := by kernel_rfl
  i168 := by kernel_rfl
  i171 := by kernel_rfl
  i173 := by kernel_rfl
  i175 := by kernel_rfl
  i210 := by kernel_rfl
  i212 := by kernel_rfl
  i232 := by kernel_rfl
  i233 := by kernel_rfl
  m15 := by kernel_rfl
  m16 := by kernel_rfl
  m17 := by kernel_rfl
  m18 := by kernel_rfl
  m19 := by kernel_rfl
  c0 := by kernel_rfl
  c2 := by kernel_rfl
  c3 := by kernel_rfl
  c4 := by kernel_rfl
  c5 := by kernel_rfl
  c9 := by kernel_rfl
  c20 := by kernel_rfl
  c21 := by kernel_rfl
  c37 := by kernel_rfl
  c46 := by kernel_rfl
  c51 := by kernel_rfl
  c53 := by kernel_rfl
  c75 := by kernel_rfl
  c80 := by kernel_rfl
  c85 := by kernel_rfl
  c127 := by kernel_rfl
  c143 := by kernel_rfl
  c145 := by kernel_rfl
  c167 := by kernel_rfl
  c168 := by kernel_rfl
  c171 := by kernel_rfl
  c173 := by kernel_rfl
  c175 := by kernel_rfl
  c210 := by kernel_rfl
  c212 := by kernel_rfl
  c213 := by kernel_rfl
  c232 := by kernel_rfl
  c233 := by kernel_rfl }
open Go.RowKit in
theorem Tryd.strconv_ParseInt_10_at64_ok (s : ByteArray) (hmax : s.size ≤ 9223372036854775806) (v : Int) (h : Lib.parseIntB 64 s.data.toList = .ok v) (w : World) :
    Calls Tryd.prog 64 #[.string s, .int .i64 10, .int .i64 64] w fun e w' => e = .returned (.tuple #[.int .i64 v, .nilIface]) ∧ (w' = w ∨ ∃ t, w' = Lib.bytesWorld w 5 t) := Any.strconv_ParseInt_10_at64_ok Tryd.laysC174 s hmax v h w
open Go.RowKit in
theorem Tryd.strconv_ParseInt_10_at64_range_var (s : ByteArray) (hlim : s.size ≤ 281474976710656) (h : Lib.parseIntB 64 s.data.toList = .range) (tp : TypeId) (p : Value) (w : World) (hvar : w.var? Tryd.prog "strconv.ErrRange" = some #[.iface tp p]) :
    Calls Tryd.prog 64 #[.string s, .int .i64 10, .int .i64 64] w fun e w' => ∃ N, e = .returned (.tuple #[.int .i64 (Lib.intSat 64 s.data.toList), .iface 91 (.pointer (some ⟨N, 0, none⟩))]) ∧ w.heap.size ≤ N ∧ w'.heap[N]? = some (.cells #[.string ⟨#[80, 97, 114, 115, 101, 73, 110, 116]⟩, .string s, .iface tp p] 97 (0, 0)) ∧ Below w.heap.size w w' := Any.strconv_ParseInt_10_at64_range_var Tryd.laysC174 s hlim h tp p w hvar
end Go.Proofs

namespace Go.Proofs.YtoogbgmneabfnaaDoor
open Go.RowKit M

theorem toList_ne (s : ByteArray) (k : Bs) (h : s.data.toList ≠ k) : (s.toList == k) = false := by
  rw [ByteArray.toList_eq]; exact beq_eq_false_iff_ne.2 h
theorem toList_is (s : ByteArray) (k : Bs) (h : s.data.toList = k) : (s.toList == k) = true := by
  rw [ByteArray.toList_eq]; exact beq_iff_eq.2 h

set_option maxHeartbeats 1000000 in
theorem keyword_no (s : ByteArray) (w : World) (h : kwB s.data.toList = false) :
    Calls Tryd.prog 61 #[.string s] w fun e w' => e = .returned (.bool false) ∧ w = w' := by
  have hne : ∀ k, k ∈ keywords → (s.toList == k) = false := fun k hk => toList_ne s k (fun e => by
    unfold kwB at h; rw [e] at h; simp [hk] at h)
  have g0 := hne [97, 110, 100] (by decide)
  have g1 := hne [111, 114] (by decide)
  have g2 := hne [110, 111, 116] (by decide)
  have g3 := hne [105, 102] (by decide)
  have g4 := hne [116, 104, 101, 110] (by decide)
  have g5 := hne [101, 108, 115, 101] (by decide)
  have g6 := hne [108, 101, 116] (by decide)
  have g7 := hne [119, 105, 116, 104, 105, 110] (by decide)
  have g8 := hne [116, 114, 117, 101] (by decide)
  have g9 := hne [102, 97, 108, 115, 101] (by decide)
  have g10 := hne [100, 97, 116, 97, 116, 121, 112, 101] (by decide)
  have g11 := hne [110, 97, 109, 101, 116, 121, 112, 101] (by decide)
  have g12 := hne [99, 104, 97, 110, 110, 101, 108] (by decide)
  have g13 := hne [109, 111, 100, 117, 108, 101] (by decide)
  have g14 := hne [101, 120, 112, 111, 114, 116, 115] (by decide)
  have g15 := hne [101, 110, 100, 109, 111, 100, 117, 108, 101] (by decide)
  have g16 := hne [105, 110, 115, 116, 97, 110, 99, 101] (by decide)
  have g17 := hne [84, 105, 109, 101, 100] (by decide)
  have g18 := hne [101, 110, 100, 116, 105, 109, 101, 100] (by decide)
  have g19 := hne [97, 115, 115, 101, 114, 116] (by decide)
  have g20 := hne [83, 84, 79, 80] (by decide)
  have g21 := hne [83, 75, 73, 80] (by decide)
  have g22 := hne [68, 73, 86] (by decide)
  have g23 := hne [99, 104, 97, 115, 101] (by decide)
  have g24 := hne [112, 114, 105, 111, 114, 105, 116, 105, 115, 101] (by decide)
  clear hne h
  go_enter Tryd.func61, Tryd.ntmps61
  go_wp2
  go_ret
  exact ⟨rfl, rfl⟩

set_option maxHeartbeats 2000000 in
theorem keyword_yes (s : ByteArray) (w : World) (h : kwB s.data.toList = true) :
    Calls Tryd.prog 61 #[.string s] w fun e w' => e = .returned (.bool true) ∧ w = w' := by
  have hm : s.data.toList ∈ keywords := by unfold kwB at h; simpa using h
  have hs := S_of s
  generalize s.data.toList = l at hm hs
  subst hs
  clear h
  simp only [keywords, List.mem_cons, List.not_mem_nil, or_false] at hm
  rcases hm with rfl | rfl | rfl | rfl | rfl | rfl | rfl | rfl | rfl | rfl | rfl | rfl | rfl | rfl | rfl | rfl | rfl | rfl | rfl | rfl | rfl | rfl | rfl | rfl | rfl
  all_goals
    go_enter Tryd.func61, Tryd.ntmps61
    go_wp2
    go_ret
    exact ⟨rfl, rfl⟩

end Go.Proofs.YtoogbgmneabfnaaDoor

namespace Go.Proofs.YtoogbgmneabfnaaDoor
open Go.RowKit M

/-- the variable strconv.ErrRange holds an interface value -/
def RangeVar (w : World) : Prop := ∃ tp p, w.var? Tryd.prog "strconv.ErrRange" = some #[.iface tp p]
theorem global_range : Tryd.prog.globalNamed "strconv.ErrRange" = some 1 := by kernel_rfl
theorem RangeVar.lt {w : World} (h : RangeVar w) : 1 < w.heap.size := by
  obtain ⟨tp, p, h⟩ := h
  rcases Nat.lt_or_ge 1 w.heap.size with hlt | hge
  · exact hlt
  · unfold World.var? at h
    simp [global_range, Array.getElem?_eq_none hge] at h
theorem RangeVar.below {w w' : World} (h : RangeVar w) (hb : Below w.heap.size w w') : RangeVar w' := by
  have hl := h.lt
  obtain ⟨tp, p, h⟩ := h
  refine ⟨tp, p, ?_⟩
  unfold World.var? at h ⊢
  simp only [global_range, Option.bind_some] at h ⊢
  rw [hb.block _ hl]
  exact h
theorem RangeVar.alloc {w : World} (h : RangeVar w) (o : Obj) : RangeVar (w.alloc o) := h.below ((Below.refl _ _).alloc (Nat.le_refl _) _)

/-- a token's value -/
abbrev tokV (k n : Int) (s : Bs) (l c : Int) : Value := .agg #[.int .i64 k, .int .i64 n, .string (S s), .int .i64 l, .int .i64 c]
def itemV (t : TR) : Value := .tuple #[tokV t.kind t.num t.str 0 0, .int .i64 t.err]

theorem bcell {W w1 : World} (hb : Below W.heap.size W w1) : (∀ b o, b < W.heap.size → w1.cell? ⟨b, o, none⟩ = W.cell? ⟨b, o, none⟩) ∧ (∀ b o, b < W.heap.size → w1.frozen? ⟨b, o, none⟩ = W.frozen? ⟨b, o, none⟩) :=
  ⟨fun b o h => hb.cell (p := ⟨b, o, none⟩) h, fun b o h => hb.frozen (p := ⟨b, o, none⟩) h⟩

set_option maxHeartbeats 600000 in
theorem integer_zero (s : ByteArray) (hp : 0 < s.size) (h0 : s[0].toNat = 48) (h1 : s.data.toList ≠ [48]) (w : World) :
    Calls Tryd.prog 60 #[.string s] w fun e w' => e = .returned (.tuple #[tokV 0 0 [] 0 0, .int .i64 2]) ∧ Below w.heap.size w w' := by
  have hv := cast_of _ _ h0
  have hne := toList_ne s _ h1
  clear h0 h1
  go_enter Tryd.func60, Tryd.ntmps60
  go_wp2
  exact bodyPost_ret (v := .tuple #[tokV 0 0 [] 0 0, .int .i64 2]) (by simp [results, Tryd.results60, go_sem]) rfl ⟨rfl, (Below.refl _ _).alloc (Nat.le_refl _) _⟩

theorem parse_ok (s : ByteArray) (hm : s.size ≤ 140737488355328) (hp : 0 < s.size) (hd : allDigits s.data.toList = true) (hl : intVal s.data.toList < 9223372036854775808) (w : World) :
    Calls Tryd.prog 64 #[.string s, .int .i64 10, .int .i64 64] w fun e w' => e = .returned (.tuple #[.int .i64 (intVal s.data.toList), .nilIface]) ∧ Below w.heap.size w w' := by
  have hne : s.data.toList ≠ [] := by rw [head_of s hp]; simp
  refine (Tryd.strconv_ParseInt_10_at64_ok s (by omega) (intVal s.data.toList) (by rw [parse_digits _ hne hd, if_pos hl]) w).mono ?_
  rintro e w' ⟨he, hw⟩
  refine ⟨he, ?_⟩
  rcases hw with rfl | ⟨t, rfl⟩
  · exact Below.refl _ _
  · exact Lib.bytesWorld_below _ _ _
def AnErr (w : World) (e : Ending) (w' : World) : Prop := ∃ v N, e = .returned (.tuple #[.int .i64 v, .iface 91 (.pointer (some ⟨N, 0, none⟩))]) ∧ Below w.heap.size w w'
theorem parse_range (s : ByteArray) (hm : s.size ≤ 140737488355328) (hp : 0 < s.size) (hd : allDigits s.data.toList = true) (hl : ¬ intVal s.data.toList < 9223372036854775808) (w : World) (hr : RangeVar w) :
    Calls Tryd.prog 64 #[.string s, .int .i64 10, .int .i64 64] w (AnErr w) := by
  have hne : s.data.toList ≠ [] := by rw [head_of s hp]; simp
  obtain ⟨tp, p, hv⟩ := hr
  refine (Tryd.strconv_ParseInt_10_at64_range_var s (by omega) (by rw [parse_digits _ hne hd, if_neg hl]) tp p w hv).mono ?_
  rintro e w' ⟨N, he, _, _, hb⟩
  exact ⟨_, N, he, hb⟩

theorem digits_step (s : ByteArray) (k : Nat) (h : k < s.size) : allDigits (rest s k) = (digitB s[k] && allDigits (rest s (k + 1))) := by
  rw [rest_cons s k h]; rfl

set_option maxHeartbeats 1000000 in
theorem integer_bad (s : ByteArray) (hm : s.size ≤ 140737488355328) (hp : 0 < s.size) (h0 : s[0].toNat ≠ 48 ∨ s.data.toList = [48]) (hd : allDigits s.data.toList = false) (w : World) :
    Calls Tryd.prog 60 #[.string s] w fun e w' => e = .returned (.tuple #[tokV 0 0 [] 0 0, .int .i64 2]) ∧ Below w.heap.size w w' := by
  have h0 : s[0].toNat ≠ 48 := by
    rcases h0 with h0 | h0
    · exact h0
    · rw [h0] at hd; exact absurd hd (by decide)
  have hv : ((s[0].toNat : Int) == 48) = false := beq_eq_false_iff_ne.2 (by omega)
  have hD : Hid (allDigits (rest s 0) = false) := hd
  clear h0 hd
  go_enter Tryd.func60, Tryd.ntmps60
  go_wp2
  go_loop [17] (fun t => ∃ k : Nat, k ≤ s.size ∧ t = .int .i64 k ∧ Hid (allDigits (rest s k) = false)) (fun t => s.size - (intOf t).toNat)
  case atStart => exact ⟨0, by omega, rfl, hD⟩
  case round =>
    obtain ⟨k, hk, rfl, hK⟩ := hrel
    have hlt : k < s.size := by
      rcases Nat.lt_or_ge k s.size with h | h
      · exact h
      · have := hK.out; rw [rest_end s k h] at this; exact absurd this (by decide)
    have hs := digits_step s k hlt
    cases hc : digitB s[k]
    · clear hs hK
      go_wp2_with (go_at_call 58; refine (isDigit_any _ _).mono ?_; rintro e w' ⟨rfl, rfl⟩)
      exact bodyPost_ret (v := .tuple #[tokV 0 0 [] 0 0, .int .i64 2]) (by simp [results, Tryd.results60, go_sem]) rfl ⟨rfl, (Below.refl _ _).alloc (Nat.le_refl _) _⟩
    · have hz : Hid (allDigits (rest s (k + 1)) = false) := by
        have := hK.out; rw [hs, hc] at this; unfold Hid; simpa using this
      clear hs hK
      go_wp2_with (go_at_call 58; refine (isDigit_any _ _).mono ?_; rintro e w' ⟨rfl, rfl⟩)
      go_round
      case rel => exact ⟨k + 1, by omega, by go_num, hz⟩
      case measure => simp [intOf]; omega

set_option maxHeartbeats 1000000 in
theorem integer_small (s : ByteArray) (hm : s.size ≤ 140737488355328) (hp : 0 < s.size) (h0 : s[0].toNat ≠ 48 ∨ s.data.toList = [48]) (hd : allDigits s.data.toList = true) (hi : intVal s.data.toList < 9223372036854775808) (w : World) :
    Calls Tryd.prog 60 #[.string s] w fun e w' => e = .returned (.tuple #[tokV 2 (intVal s.data.toList) [] 0 0, .int .i64 0]) ∧ Below w.heap.size w w' := by
  have hv : ((s[0].toNat : Int) == 48) = false ∨ ((s.toList == [48]) = true ∧ (s[0].toNat : Int) = 48) := by
    rcases h0 with h0 | h0
    · exact .inl (beq_eq_false_iff_ne.2 (by omega))
    · refine .inr ⟨toList_is _ _ h0, ?_⟩
      have := head_of s hp
      rw [h0] at this
      have h1 : (48 : UInt8) = s[0] := by injection this
      rw [← h1]; rfl
  have hD : Hid (allDigits (rest s 0) = true) := hd
  have HD := Lib.hid hd
  have HI := Lib.hid hi
  clear h0 hd hi
  rcases hv with hv | ⟨hv, hv2⟩
  all_goals
    go_enter Tryd.func60, Tryd.ntmps60
    go_wp2
    go_loop [17] (fun t => ∃ k : Nat, k ≤ s.size ∧ t = .int .i64 k ∧ Hid (allDigits (rest s k) = true)) (fun t => s.size - (intOf t).toNat)
    case atStart => exact ⟨0, by omega, rfl, hD⟩
    case round =>
      obtain ⟨k, hk, rfl, hK⟩ := hrel
      by_cases hlt : k < s.size
      · have hs := digits_step s k hlt
        have hc : digitB s[k] = true := by
          have := hK.out; rw [hs] at this; simp only [Bool.and_eq_true] at this; exact this.1
        have hz : Hid (allDigits (rest s (k + 1)) = true) := by
          have := hK.out; rw [hs] at this; simp only [Bool.and_eq_true] at this; exact this.2
        clear hs hK
        go_wp2_with (go_at_call 58; refine (isDigit_any _ _).mono ?_; rintro e w' ⟨rfl, rfl⟩)
        go_round
        case rel => exact ⟨k + 1, by omega, by go_num, hz⟩
        case measure => simp [intOf]; omega
      · clear hK
        go_wp2_with fail
        refine (parse_ok s hm hp HD.out HI.out _).mono ?_
        rintro e w1 ⟨rfl, hb⟩
        obtain ⟨hc, hf⟩ := bcell hb
        have hz : w.heap.size + 1 ≤ w1.heap.size := by have := hb.size; simp at this; omega
        go_wp2
        obtain ⟨hc, _⟩ := bcell hb
        refine bodyPost_ret (v := .tuple #[tokV 2 (intVal s.data.toList) [] 0 0, .int .i64 0]) ?_ rfl ⟨rfl, ?_⟩
        · simp [results, Tryd.results60, go_sem, hc]
        · exact (((((((Below.refl _ _).alloc (Nat.le_refl _) _).trans (hb.mono (by simp))).setCell (by simp) _).setCell (by simp) _).setCell (by simp) _).setCell (by simp) _).setCell (by simp) _
set_option maxHeartbeats 1000000 in
theorem integer_large (s : ByteArray) (hm : s.size ≤ 140737488355328) (hp : 0 < s.size) (h0 : s[0].toNat ≠ 48 ∨ s.data.toList = [48]) (hd : allDigits s.data.toList = true) (hi : ¬ intVal s.data.toList < 9223372036854775808) (w : World) (hr : RangeVar w) :
    Calls Tryd.prog 60 #[.string s] w fun e w' => e = .returned (.tuple #[tokV 0 0 [] 0 0, .int .i64 9]) ∧ Below w.heap.size w w' := by
  have hv : ((s[0].toNat : Int) == 48) = false ∨ ((s.toList == [48]) = true ∧ (s[0].toNat : Int) = 48) := by
    rcases h0 with h0 | h0
    · exact .inl (beq_eq_false_iff_ne.2 (by omega))
    · refine .inr ⟨toList_is _ _ h0, ?_⟩
      have := head_of s hp
      rw [h0] at this
      have h1 : (48 : UInt8) = s[0] := by injection this
      rw [← h1]; rfl
  have hD : Hid (allDigits (rest s 0) = true) := hd
  have HD := Lib.hid hd
  have HI := Lib.hid hi
  have hR := Lib.hid hr
  clear h0 hd hi hr
  rcases hv with hv | ⟨hv, hv2⟩
  all_goals
    go_enter Tryd.func60, Tryd.ntmps60
    go_wp2
    go_loop [17] (fun t => ∃ k : Nat, k ≤ s.size ∧ t = .int .i64 k ∧ Hid (allDigits (rest s k) = true)) (fun t => s.size - (intOf t).toNat)
    case atStart => exact ⟨0, by omega, rfl, hD⟩
    case round =>
      obtain ⟨k, hk, rfl, hK⟩ := hrel
      by_cases hlt : k < s.size
      · have hs := digits_step s k hlt
        have hc : digitB s[k] = true := by
          have := hK.out; rw [hs] at this; simp only [Bool.and_eq_true] at this; exact this.1
        have hz : Hid (allDigits (rest s (k + 1)) = true) := by
          have := hK.out; rw [hs] at this; simp only [Bool.and_eq_true] at this; exact this.2
        clear hs hK
        go_wp2_with (go_at_call 58; refine (isDigit_any _ _).mono ?_; rintro e w' ⟨rfl, rfl⟩)
        go_round
        case rel => exact ⟨k + 1, by omega, by go_num, hz⟩
        case measure => simp [intOf]; omega
      · clear hK
        go_wp2_with fail
        refine (parse_range s hm hp HD.out HI.out _ (hR.out.alloc _)).mono ?_
        rintro e w1 ⟨v, N, rfl, hb⟩
        obtain ⟨hc, hf⟩ := bcell hb
        have hz : w.heap.size + 1 ≤ w1.heap.size := by have := hb.size; simp at this; omega
        go_wp2
        obtain ⟨hc, _⟩ := bcell hb
        refine bodyPost_ret (v := .tuple #[tokV 0 0 [] 0 0, .int .i64 9]) ?_ rfl ⟨rfl, ?_⟩
        · simp [results, Tryd.results60, go_sem, hc]
        · exact (((((((Below.refl _ _).alloc (Nat.le_refl _) _).trans (hb.mono (by simp))).setCell (by simp) _).setCell (by simp) _).setCell (by simp) _).setCell (by simp) _).setCell (by simp) _


theorem head?_of (s : ByteArray) (hp : 0 < s.size) : s.data.toList.head? = some s[0] := by rw [head_of s hp]; rfl
theorem eq_of_toNat (c : UInt8) (n : Nat) (hn : n < 256) : c = UInt8.ofNat n ↔ c.toNat = n := by
  rw [← UInt8.toNat_inj]; simp [Nat.mod_eq_of_lt hn]

theorem integer_any (s : ByteArray) (hm : s.size ≤ 140737488355328) (hp : 0 < s.size) (w : World) (hr : RangeVar w) :
    Calls Tryd.prog 60 #[.string s] w fun e w' => e = .returned (itemV (intR s.data.toList)) ∧ Below w.heap.size w w' := by
  have hh : (s.data.toList.head? = some 48) ↔ s[0].toNat = 48 := by
    rw [head?_of s hp, Option.some_inj]; exact eq_of_toNat _ 48 (by decide)
  unfold intR
  by_cases h1 : s[0].toNat = 48 ∧ s.data.toList ≠ [48]
  · rw [if_pos ⟨hh.2 h1.1, h1.2⟩]; exact integer_zero s hp h1.1 h1.2 w
  · rw [if_neg (fun h => h1 ⟨hh.1 h.1, h.2⟩)]
    have h0 : s[0].toNat ≠ 48 ∨ s.data.toList = [48] := by
      by_cases h : s[0].toNat = 48
      · exact .inr (Classical.byContradiction fun hn => h1 ⟨h, hn⟩)
      · exact .inl h
    cases hd : allDigits s.data.toList
    · rw [if_pos rfl]; exact integer_bad s hm hp h0 hd w
    · rw [if_neg (by decide)]
      by_cases hi : intVal s.data.toList < 9223372036854775808
      · rw [if_pos hi]; exact integer_small s hm hp h0 hd hi w
      · rw [if_neg hi]; exact integer_large s hm hp h0 hd hi w hr

set_option maxHeartbeats 1000000 in
theorem word_digit (s : ByteArray) (hm : s.size ≤ 140737488355328) (hp : 0 < s.size) (hd : digitB s[0] = true) (w : World) (hr : RangeVar w) :
    Calls Tryd.prog 55 #[.string s] w fun e w' => e = .returned (itemV (intR s.data.toList)) ∧ Below w.heap.size w w' := by
  have hI := fun W h => integer_any s hm hp W h
  generalize intR s.data.toList = t at hI
  obtain ⟨k, n, st, er⟩ := t
  unfold itemV at hI ⊢
  have HI := Lib.hid hI
  have hR := Lib.hid hr
  clear hI hr
  go_enter Tryd.func55, Tryd.ntmps55
  go_wp2_with (go_at_call 58; refine (isDigit_any _ _).mono ?_; rintro e w' ⟨rfl, rfl⟩)
  refine (HI.out _ (hR.out.alloc _)).mono ?_
  rintro e w1 ⟨rfl, hb⟩
  obtain ⟨hc, hf⟩ := bcell hb
  have hz : w.heap.size + 1 ≤ w1.heap.size := by have := hb.size; simp at this; omega
  go_wp2
  obtain ⟨hc, _⟩ := bcell hb
  refine bodyPost_ret (v := .tuple #[tokV k n st 0 0, .int .i64 er]) ?_ rfl ⟨rfl, ?_⟩
  · simp [results, Tryd.results55, go_sem, hc]
  · exact (((((((Below.refl _ _).alloc (Nat.le_refl _) _).trans (hb.mono (by simp))).setCell (by simp) _).setCell (by simp) _).setCell (by simp) _).setCell (by simp) _).setCell (by simp) _

set_option maxHeartbeats 1000000 in
theorem word_kw (s : ByteArray) (hp : 0 < s.size) (hd : digitB s[0] = false) (hk : kwB s.data.toList = true) (w : World) :
    Calls Tryd.prog 55 #[.string s] w fun e w' => e = .returned (.tuple #[tokV 3 0 s.data.toList 0 0, .int .i64 0]) ∧ Below w.heap.size w w' := by
  have HK := Lib.hid hk
  clear hk
  go_enter Tryd.func55, Tryd.ntmps55
  go_wp2_with (first | (go_at_call 58; refine (isDigit_any _ _).mono ?_; rintro e w' ⟨rfl, rfl⟩) | (go_at_call 61; refine (keyword_yes _ _ HK.out).mono ?_; rintro e w' ⟨rfl, rfl⟩))
  refine bodyPost_ret (v := .tuple #[tokV 3 0 s.data.toList 0 0, .int .i64 0]) ?_ rfl ⟨rfl, ?_⟩
  · simp only [tokV]
    simp [results, Tryd.results55, go_sem]
  · exact (Below.refl _ _).alloc (Nat.le_refl _) _

set_option maxHeartbeats 1000000 in
theorem word_name (s : ByteArray) (hp : 0 < s.size) (hd : digitB s[0] = false) (hk : kwB s.data.toList = false) (hl : s.size ≤ 64) (w : World) :
    Calls Tryd.prog 55 #[.string s] w fun e w' => e = .returned (.tuple #[tokV 1 0 s.data.toList 0 0, .int .i64 0]) ∧ Below w.heap.size w w' := by
  have HK := Lib.hid hk
  clear hk
  go_enter Tryd.func55, Tryd.ntmps55
  go_wp2_with (first | (go_at_call 58; refine (isDigit_any _ _).mono ?_; rintro e w' ⟨rfl, rfl⟩) | (go_at_call 61; refine (keyword_no _ _ HK.out).mono ?_; rintro e w' ⟨rfl, rfl⟩))
  refine bodyPost_ret (v := .tuple #[tokV 1 0 s.data.toList 0 0, .int .i64 0]) ?_ rfl ⟨rfl, ?_⟩
  · simp only [tokV]
    simp [results, Tryd.results55, go_sem]
  · exact (Below.refl _ _).alloc (Nat.le_refl _) _

set_option maxHeartbeats 1000000 in
theorem word_long (s : ByteArray) (hm : s.size ≤ 140737488355328) (hp : 0 < s.size) (hd : digitB s[0] = false) (hk : kwB s.data.toList = false) (hl : 64 < s.size) (w : World) :
    Calls Tryd.prog 55 #[.string s] w fun e w' => e = .returned (.tuple #[tokV 0 0 [] 0 0, .int .i64 2]) ∧ Below w.heap.size w w' := by
  have HK := Lib.hid hk
  clear hk
  go_enter Tryd.func55, Tryd.ntmps55
  go_wp2_with (first | (go_at_call 58; refine (isDigit_any _ _).mono ?_; rintro e w' ⟨rfl, rfl⟩) | (go_at_call 61; refine (keyword_no _ _ HK.out).mono ?_; rintro e w' ⟨rfl, rfl⟩))
  refine bodyPost_ret (v := .tuple #[tokV 0 0 [] 0 0, .int .i64 2]) ?_ rfl ⟨rfl, ?_⟩
  · simp [results, Tryd.results55, go_sem]
  · exact (Below.refl _ _).alloc (Nat.le_refl _) _

theorem wordToken_any (s : ByteArray) (hm : s.size ≤ 140737488355328) (hp : 0 < s.size) (w : World) (hr : RangeVar w) :
    Calls Tryd.prog 55 #[.string s] w fun e w' => e = .returned (itemV (wordR s.data.toList)) ∧ Below w.heap.size w w' := by
  have hz : s.size = s.data.toList.length := by simp
  unfold wordR
  rw [head?_of s hp]
  cases hd : digitB s[0]
  · rw [if_neg (by simp [hd])]
    cases hk : kwB s.data.toList
    · rw [if_neg (by decide)]
      by_cases hl : s.data.toList.length ≤ 64
      · rw [if_pos hl]; exact word_name s hp hd hk (by omega) w
      · rw [if_neg hl]; exact word_long s hm hp hd hk (by omega) w
    · rw [if_pos rfl]; exact word_kw s hp hd hk w
  · rw [if_pos (by simp [hd])]; exact word_digit s hm hp hd w hr

end Go.Proofs.YtoogbgmneabfnaaDoor
