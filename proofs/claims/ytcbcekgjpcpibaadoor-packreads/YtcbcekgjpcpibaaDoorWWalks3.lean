/- What Step, Side, Back of package where answer: the plain functions of WMath; nothing is written. -/
import Derived.Test.YtcbcekgjpcpibaaDoorWWalks2
namespace Go.Proofs.YtcbcekgjpcpibaaDoor
open Go.RowKit

end Go.Proofs.YtcbcekgjpcpibaaDoor
