/- What Step, Side, Back of package where answer: the plain functions of WMath; nothing is written. -/
import Derived.Test.YtjnoklfmdckidaaWWalks2
namespace Go.Proofs.Ytjnoklfmdckidaa
open Go.RowKit

end Go.Proofs.Ytjnoklfmdckidaa
