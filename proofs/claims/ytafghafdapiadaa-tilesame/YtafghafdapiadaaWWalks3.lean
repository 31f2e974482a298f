/- What Step, Side, Back of package where answer: the plain functions of WMath; nothing is written. -/
import Derived.Test.YtafghafdapiadaaWWalks2
namespace Go.Proofs.Ytafghafdapiadaa
open Go.RowKit

end Go.Proofs.Ytafghafdapiadaa
