/- What the program says of the type int64. -/
import Derived.Test.YtocnaopjefhbjaaRows
import Derived.Test.YtocnaopjefhbjaaBlk
namespace Go.Proofs.Ytocnaopjefhbjaa.W
open Go.RowKit

theorem infoI : (Try.prog.info? 2).map (fun i => (i.zero, i.size, i.bytes)) = some (some (.int .i64 0), 1, 8) := by kernel_rfl
end Go.Proofs.Ytocnaopjefhbjaa.W
