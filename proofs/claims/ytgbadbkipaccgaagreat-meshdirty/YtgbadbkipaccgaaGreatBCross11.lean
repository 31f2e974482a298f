/- What border's Cross makes: a row of its own; nothing that was there is written. -/
import Derived.Test.YtgbadbkipaccgaaGreatBCells11
import Derived.Test.YtgbadbkipaccgaaGreatLPair
namespace Go.Proofs.YtgbadbkipaccgaaGreat
open Go.RowKit
set_option maxRecDepth 20000

theorem info_edge : (Tryz.prog.info? 56).map (fun i => (i.zero, i.size, i.bytes)) = some (some (.agg #[.int .i64 0, .int .i64 0]), 2, 16) := by kernel_rfl

end Go.Proofs.YtgbadbkipaccgaaGreat
