/- Lists of int64 numbers in memory: slices.Clone, slices.Equal, the reference's Clone and Same; Same of two examples, the program's and the reference's. Condition: at most 2^40 numbers. -/
import Derived.Test.YthcahpgandappaaEb
import Derived.Test.YthcahpgandappaaVb
import Derived.Deep.QuietTactic
import Derived.BigQuiet
import Derived.Lib.SliceRun
import Derived.OwnWalk
import Derived.Maps.AppendAt
namespace Go.Proofs.Ythcahpgandappaa
open Go.RowKit

theorem info_i64 : (Try.prog.info? 2).map (fun i => (i.zero, i.size, i.bytes)) = some (some (.int .i64 0), 1, 8) := by kernel_rfl
end Go.Proofs.Ythcahpgandappaa
