/- The plain model of the lexer: functions on lists of bytes, no program in it. No conditions. -/
namespace Go.Proofs.YtbegenmhfmpgpaaDoor.M

abbrev Bs := List UInt8

def letterB (c : UInt8) : Bool := (97 ≤ c.toNat && c.toNat ≤ 122) || (65 ≤ c.toNat && c.toNat ≤ 90)
def digitB (c : UInt8) : Bool := 48 ≤ c.toNat && c.toNat ≤ 57
def contB (c : UInt8) : Bool := letterB c || digitB c || c.toNat == 95 || c.toNat == 39

/-- how many bytes at the head continue a word -/
def wlen (l : Bs) : Nat := (l.takeWhile contB).length
/-- the size of the word that begins a text, 0 if there is none -/
def wordN (l : Bs) : Nat := match l with
  | [] => 0
  | c :: r => if letterB c || digitB c then 1 + wlen r else 0

def firstP (l : Bs) : List Bs → Bs
  | [] => []
  | p :: ps => if p.isPrefixOf l then p else firstP l ps

def parenP (l : Bs) : Bs := if [40, 124, 126].isPrefixOf l || [40, 124, 124].isPrefixOf l then [40] else firstP l [[40, 124], [40]]

/-- the symbol of a text that begins with c -/
def symOf (c : UInt8) (l : Bs) : Bs :=
    if c = 91 then firstP l [[91, 70, 68, 61], [91, 84, 61], [91, 70, 61], [91, 124], [91, 93], [91, 62], [91, 43], [91, 91], [91]]
    else if c = 124 then firstP l [[124, 126, 124], [124, 124, 124], [124, 124], [124, 93], [124, 62], [124, 125], [124, 41], [124]]
    else if c = 60 then firstP l [[60, 45, 62], [60, 45], [60, 61], [60]]
    else if c = 40 then parenP l
    else if c = 93 then firstP l [[93, 93], [93]]
    else if c = 43 then firstP l [[43, 93], [43]]
    else if c = 123 then firstP l [[123, 124], [123]]
    else if c = 62 then firstP l [[62, 61], [62]]
    else if c = 45 then firstP l [[45, 62], [45]]
    else if c = 47 then firstP l [[47, 92], [47]]
    else if c = 61 then firstP l [[61, 62], [61, 61], [61]]
    else if c = 33 then firstP l [[33, 61], [33]]
    else if c = 58 then firstP l [[58, 58], [58]]
    else if c = 46 then firstP l [[46, 46], [46]]
    else if c = 64 then firstP l [[64, 64], [64]]
    else if c = 125 ∨ c = 41 ∨ c = 42 ∨ c = 37 ∨ c = 92 ∨ c = 59 ∨ c = 44 ∨ c = 63 ∨ c = 36 ∨ c = 38 ∨ c = 94 ∨ c = 35 ∨ c = 95 then [c]
    else []

def symB (l : Bs) : Bs := match l with
  | [] => []
  | c :: _ => symOf c l

def keywords : List Bs := [[97, 110, 100], [111, 114], [110, 111, 116], [105, 102], [116, 104, 101, 110], [101, 108, 115, 101], [108, 101, 116], [119, 105, 116, 104, 105, 110], [116, 114, 117, 101], [102, 97, 108, 115, 101],
  [100, 97, 116, 97, 116, 121, 112, 101], [110, 97, 109, 101, 116, 121, 112, 101], [99, 104, 97, 110, 110, 101, 108], [109, 111, 100, 117, 108, 101], [101, 120, 112, 111, 114, 116, 115], [101, 110, 100, 109, 111, 100, 117, 108, 101], [105, 110, 115, 116, 97, 110, 99, 101],
  [84, 105, 109, 101, 100], [101, 110, 100, 116, 105, 109, 101, 100], [97, 115, 115, 101, 114, 116], [83, 84, 79, 80], [83, 75, 73, 80], [68, 73, 86], [99, 104, 97, 115, 101], [112, 114, 105, 111, 114, 105, 116, 105, 115, 101]]
/-- the symbols in the document's order -/
def symbolsL : List Bs := [[91, 70, 68, 61], [124, 126, 124], [124, 124, 124], [60, 45, 62], [91, 84, 61], [91, 70, 61], [124, 124], [124, 93], [124, 62], [124, 125], [124, 41], [91, 124], [91, 93], [91, 62], [91, 43], [91, 91], [93, 93], [43, 93], [123, 124], [40, 124], [60, 45], [60, 61], [62, 61], [45, 62], [47, 92], [61, 62], [61, 61], [33, 61], [58, 58], [46, 46], [64, 64], [124], [91], [93], [123], [125], [40], [41], [60], [62], [43], [45], [42], [47], [37], [92], [61], [33], [58], [59], [44], [46], [63], [36], [64], [38], [94], [35], [95]]
def kwB (l : Bs) : Bool := keywords.contains l

theorem wlen_nil : wlen [] = 0 := rfl
theorem wlen_le (l : Bs) : wlen l ≤ l.length := (List.takeWhile_sublist _).length_le
theorem wlen_cons (c : UInt8) (r : Bs) : wlen (c :: r) = if contB c then 1 + wlen r else 0 := by
  unfold wlen; rw [List.takeWhile_cons]; split <;> simp [Nat.add_comm]
theorem wordN_le (l : Bs) : wordN l ≤ l.length := by
  unfold wordN
  split
  · simp
  · have := wlen_le ‹_›
    split <;> simp <;> omega

end Go.Proofs.YtbegenmhfmpgpaaDoor.M
