/- What Size, Sector, Local, Global, Step, Side, Back of package where answer: the plain functions of WMath; nothing is written. -/
import Derived.Test.YtigoehoaplndiaaWWalks
namespace Go.Proofs.Ytigoehoaplndiaa
open Go.RowKit

theorem localB_mul {a b s : Int} (hs : isSectorB a b s = true) : 1 ≤ twF a s * thF a b s ∧ twF a s * thF a b s ≤ 256 := by
  have sb := size_bd hs
  have e := mul_bd (w := twF a s) (h := thF a b s) (W := 16) (H := 16) (by omega) (by omega) (by omega) (by omega)
  have f := Int.mul_le_mul sb.1 sb.2.2.1 (by omega) (by omega : (0 : Int) ≤ twF a s)
  omega

end Go.Proofs.Ytigoehoaplndiaa
