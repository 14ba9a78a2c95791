/- The sources of LayoutNests and LayoutClosers, decided on the model. No program in it. -/
import Derived.Test.YtebfnlahiodefaaDoorLayS
import Derived.KernelRfl
namespace Go.Proofs.YtebfnlahiodefaaDoor.M
open Go

def letY (k : Nat) : Bs := (List.replicate k [108, 101, 116, 32, 121, 32, 61, 32]).flatten
def nestSrc (k : Nat) : Bs := [120, 32, 61, 32] ++ letY k
theorem letY_next (k : Nat) : letY (k + 1) = letY k ++ [108, 101, 116, 32, 121, 32, 61, 32] := by unfold letY; rw [List.replicate_succ', List.flatten_append]; rfl
def nestChk (k : Nat) : Bool :=
  if 64 ≤ k then (insL (scan (nestSrc k ++ [122])).1).2 == ((1, 513), 10)
  else (insL (scan (nestSrc k ++ [122])).1).2.2 == 0 && (balL (insL (scan (nestSrc k ++ [122])).1).1 && (insL (scan (nestSrc k ++ [122])).1).1.length == 5 + 5 * k)
theorem nest_a : ((List.range 35).all fun k => nestChk k) = true := by kernel_rfl
def withinY (k : Nat) : Bs := (List.replicate k [32, 119, 105, 116, 104, 105, 110, 32, 121]).flatten
theorem withinY_next (k : Nat) : withinY (k + 1) = withinY k ++ [32, 119, 105, 116, 104, 105, 110, 32, 121] := by unfold withinY; rw [List.replicate_succ', List.flatten_append]; rfl
def opensK (k : Nat) : Bs := [79, 46, 46] ++ (List.replicate k [46, 79, 46, 46]).flatten
theorem opensK_next (k : Nat) : opensK (k + 1) = opensK k ++ [46, 79, 46, 46] := by unfold opensK; rw [List.replicate_succ', List.flatten_append]; simp
def closesK (k : Nat) : Bs := (List.replicate k [67, 46, 46]).flatten
theorem closesK_next (k : Nat) : closesK (k + 1) = closesK k ++ [67, 46, 46] := by unfold closesK; rw [List.replicate_succ', List.flatten_append]; rfl
def clSrc (k : Nat) (b : Bool) : Bs := (nestSrc k ++ [122] ++ withinY k) ++ (if b then [10, 119] else [])
def clWant (k : Nat) (b : Bool) : Bs := (opensK k ++ [46] ++ closesK k) ++ (if b then [83, 46] else [])
def clChk (k : Nat) (b : Bool) : Bool := (insL (scan (clSrc k b)).1).2.2 == 0 && kindsB (insL (scan (clSrc k b)).1).1 == clWant k b ++ [67]
theorem cl_all : ((List.range 20).all fun k => clChk k true && clChk k false) = true := by kernel_rfl
theorem cl_one (k : Nat) (h : k < 20) (b : Bool) : clChk k b = true := by
  have := List.all_eq_true.1 cl_all k (List.mem_range.2 h)
  simp only [Bool.and_eq_true] at this
  cases b
  · exact this.2
  · exact this.1

end Go.Proofs.YtebfnlahiodefaaDoor.M
