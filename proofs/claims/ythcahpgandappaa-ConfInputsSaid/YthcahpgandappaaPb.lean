/- Package part: Size, Of and Covers; the reference's Of and Covers; slices.Equal of ranges; back and given of the statement. Condition: a slice has at most 2^45 ranges. -/
import Derived.Test.YthcahpgandappaaPa
import Derived.Deep.QuietTactic
import Derived.BigQuiet
namespace Go.Proofs.Ythcahpgandappaa
open Go.RowKit

end Go.Proofs.Ythcahpgandappaa
