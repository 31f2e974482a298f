/- What Step, Side, Back of package where answer: the plain functions of WMath; nothing is written. -/
import Derived.Test.YtigoehoaplndiaaWWalks2
namespace Go.Proofs.Ytigoehoaplndiaa
open Go.RowKit

end Go.Proofs.Ytigoehoaplndiaa
