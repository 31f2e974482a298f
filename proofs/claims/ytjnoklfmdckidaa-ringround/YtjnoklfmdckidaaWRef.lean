/- What the document's own In, May, IsCell, Step, Side, Sectors answer: the same plain functions of WMath; nothing is written. -/
import Derived.Test.YtjnoklfmdckidaaWWalks3
namespace Go.Proofs.Ytjnoklfmdckidaa
open Go.RowKit

end Go.Proofs.Ytjnoklfmdckidaa
