/- What Step, Side, Back of package where answer: the plain functions of WMath; nothing is written. -/
import Derived.Test.YtobankjdgdjehaaWWalks2
namespace Go.Proofs.Ytobankjdgdjehaa
open Go.RowKit

end Go.Proofs.Ytobankjdgdjehaa
