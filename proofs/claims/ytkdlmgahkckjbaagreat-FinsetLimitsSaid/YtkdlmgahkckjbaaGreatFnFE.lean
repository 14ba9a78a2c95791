/- finset.merge at two ascending lists, by the selection inEither. Conditions: at most 524288 strings of at most 131072 bytes. -/
-- by tools/gen_fnf.py
import Derived.Test.YtkdlmgahkckjbaaGreatFnF
namespace Go.Proofs.YtkdlmgahkckjbaaGreat
open Go.RowKit Go.Shelf VM

end Go.Proofs.YtkdlmgahkckjbaaGreat
