/- Package perm: Compose. Condition: at most 2^44 numbers. -/
import Derived.Test.YtdcpankbolfmiaaTc
namespace Go.Proofs.Ytdcpankbolfmiaa
open Go.RowKit

set_option linter.unusedVariables false
/-- Whether two lists can be composed. -/
noncomputable def canB (ps qs : List Int) : Bool := decide (ps.length = qs.length) && validB ps && validB qs
end Go.Proofs.Ytdcpankbolfmiaa
