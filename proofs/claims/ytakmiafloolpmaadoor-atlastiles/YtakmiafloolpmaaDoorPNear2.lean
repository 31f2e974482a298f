/- What the statements' 'near' of layer 3 gives. -/
import Derived.Test.YtakmiafloolpmaaDoorPNear
namespace Go.Proofs.YtakmiafloolpmaaDoor
open Go.RowKit
set_option maxRecDepth 20000

end Go.Proofs.YtakmiafloolpmaaDoor
