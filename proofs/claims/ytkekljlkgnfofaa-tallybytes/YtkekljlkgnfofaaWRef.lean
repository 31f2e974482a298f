/- What the document's own In, May, IsCell, Step, Side, Sectors answer: the same plain functions of WMath; nothing is written. -/
import Derived.Test.YtkekljlkgnfofaaWWalks3
namespace Go.Proofs.Ytkekljlkgnfofaa
open Go.RowKit

end Go.Proofs.Ytkekljlkgnfofaa
