/- What Step, Side, Back of package where answer: the plain functions of WMath; nothing is written. -/
import Derived.Test.YtakmiafloolpmaaDoorWWalks2
namespace Go.Proofs.YtakmiafloolpmaaDoor
open Go.RowKit

end Go.Proofs.YtakmiafloolpmaaDoor
