/- What Step, Side, Back of package where answer: the plain functions of WMath; nothing is written. -/
import Derived.Test.YtkekljlkgnfofaaWWalks2
namespace Go.Proofs.Ytkekljlkgnfofaa
open Go.RowKit

end Go.Proofs.Ytkekljlkgnfofaa
