/- What Step, Side, Back of package where answer: the plain functions of WMath; nothing is written. -/
import Derived.Test.YtmejpildmapfiaaWWalks2
namespace Go.Proofs.Ytmejpildmapfiaa
open Go.RowKit

end Go.Proofs.Ytmejpildmapfiaa
