/- Package part: Size, Of and Covers; the reference's Of and Covers; slices.Equal of ranges; back and given of the statement. Condition: a slice has at most 2^45 ranges. -/
import Derived.Test.YtdcpankbolfmiaaPa
import Derived.Deep.QuietTactic
import Derived.BigQuiet
namespace Go.Proofs.Ytdcpankbolfmiaa
open Go.RowKit

end Go.Proofs.Ytdcpankbolfmiaa
