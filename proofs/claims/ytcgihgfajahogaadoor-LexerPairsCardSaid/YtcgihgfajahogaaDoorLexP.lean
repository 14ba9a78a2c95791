/- LexerPairs: two symbols, with and without a space between them, are scanned as specified. -/
import Derived.Test.YtcgihgfajahogaaDoorLexC
namespace Go.Proofs.YtcgihgfajahogaaDoor
open Go.RowKit M

def pairChk (a b : Bs) : Bool := (scan (a ++ [32] ++ b)).2.2 == 0 && ((scan (a ++ [32] ++ b)).1.map fun t => t.1.str) == [a, b]
theorem pair_0 : ((symbolsL.drop 0).take 10).all (fun a => symbolsL.all fun b => pairChk a b) = true := by kernel_rfl
theorem pair_10 : ((symbolsL.drop 10).take 10).all (fun a => symbolsL.all fun b => pairChk a b) = true := by kernel_rfl
theorem pair_20 : ((symbolsL.drop 20).take 10).all (fun a => symbolsL.all fun b => pairChk a b) = true := by kernel_rfl
theorem pair_30 : ((symbolsL.drop 30).take 10).all (fun a => symbolsL.all fun b => pairChk a b) = true := by kernel_rfl
theorem pair_40 : ((symbolsL.drop 40).take 10).all (fun a => symbolsL.all fun b => pairChk a b) = true := by kernel_rfl
theorem pair_50 : ((symbolsL.drop 50).take 10).all (fun a => symbolsL.all fun b => pairChk a b) = true := by kernel_rfl
theorem pair_any (a b : Bs) (ha : a ∈ symbolsL) (hb : b ∈ symbolsL) : pairChk a b = true := by
  have hs : symbolsL = symbolsL.take 10 ++ ((symbolsL.drop 10).take 10 ++ ((symbolsL.drop 20).take 10 ++ ((symbolsL.drop 30).take 10 ++ ((symbolsL.drop 40).take 10 ++ (symbolsL.drop 50).take 10)))) := by decide
  rw [hs] at ha
  simp only [List.mem_append] at ha
  have key : ∀ l : List Bs, l.all (fun a => symbolsL.all fun b => pairChk a b) = true → a ∈ l → pairChk a b = true := fun l h hm => List.all_eq_true.1 (List.all_eq_true.1 h a hm) b hb
  rcases ha with h | h | h | h | h | h
  · exact key _ pair_0 h
  · exact key _ pair_10 h
  · exact key _ pair_20 h
  · exact key _ pair_30 h
  · exact key _ pair_40 h
  · exact key _ pair_50 h

end Go.Proofs.YtcgihgfajahogaaDoor
