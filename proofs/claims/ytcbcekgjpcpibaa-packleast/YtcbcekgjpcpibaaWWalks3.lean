/- What Step, Side, Back of package where answer: the plain functions of WMath; nothing is written. -/
import Derived.Test.YtcbcekgjpcpibaaWWalks2
namespace Go.Proofs.Ytcbcekgjpcpibaa
open Go.RowKit

end Go.Proofs.Ytcbcekgjpcpibaa
