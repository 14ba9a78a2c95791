/- finset.merge at two ascending lists, by the selection inEither. Conditions: at most 524288 strings of at most 131072 bytes. -/
-- by tools/gen_fnf.py
import Derived.Test.YtdifpemohdnolaaGreatFnF
namespace Go.Proofs.YtdifpemohdnolaaGreat
open Go.RowKit Go.Shelf VM

end Go.Proofs.YtdifpemohdnolaaGreat
