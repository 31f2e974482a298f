/- WhereAsks' walk: it answers true at every input. -/
import Derived.Test.YtleoiibeaaagjaaWAsks1
import Derived.Test.YtleoiibeaaagjaaWAsks2
import Derived.Test.YtleoiibeaaagjaaWAsks3
import Derived.Test.YtleoiibeaaagjaaWAsks4
namespace Go.Proofs.Ytleoiibeaaagjaa
open Go.RowKit

theorem asks_near (a b p0 q0 c0 d0 x y p q c d : Int) (w : World) (Hx : Hid (x = nearX a b)) (Hy : Hid (y = nearY a b))
    (Hp : Hid (p = withinF p0 (-1) x)) (Hq : Hid (q = withinF q0 (-1) y)) (Hc : Hid (c = withinF c0 (-1) (x * y))) (Hd : Hid (d = withinF d0 (-1) 6)) (hm : mayB x y = true) :
    Calls Try.prog 3 #[.int .i64 a, .int .i64 b, .int .i64 p0, .int .i64 q0, .int .i64 c0, .int .i64 d0, .bool false] w fun e w' => e = .returned (.bool true) ∧ Dr w w' := by
  cases hc : isCellB x y c
  · by_cases hx : 0 ≤ p ∧ p < x
    · by_cases hy : 0 ≤ q ∧ q < y
      · exact asks_near_out0 a b p0 q0 c0 d0 x y p q c d w Hx Hy Hp Hq Hc Hd hm hc hx hy
      · exact asks_near_out1 a b p0 q0 c0 d0 x y p q c d w Hx Hy Hp Hq Hc Hd hm hc hx (by omega)
    · exact asks_near_out2 a b p0 q0 c0 d0 x y p q c d w Hx Hy Hp Hq Hc Hd hm hc (by omega)
  · by_cases hx : 0 ≤ p ∧ p < x
    · by_cases hy : 0 ≤ q ∧ q < y
      · exact asks_near_in0 a b p0 q0 c0 d0 x y p q c d w Hx Hy Hp Hq Hc Hd hm hc hx hy
      · exact asks_near_in1 a b p0 q0 c0 d0 x y p q c d w Hx Hy Hp Hq Hc Hd hm hc hx (by omega)
    · exact asks_near_in2 a b p0 q0 c0 d0 x y p q c d w Hx Hy Hp Hq Hc Hd hm hc (by omega)
theorem asks_raw (a b p q c sd : Int) (w : World) (hm : mayB a b = true) :
    Calls Try.prog 3 #[.int .i64 a, .int .i64 b, .int .i64 p, .int .i64 q, .int .i64 c, .int .i64 sd, .bool true] w fun e w' => e = .returned (.bool true) ∧ Dr w w' := by
  cases hc : isCellB a b c
  · by_cases hx : 0 ≤ p ∧ p < a
    · by_cases hy : 0 ≤ q ∧ q < b
      · exact asks_raw_out0 a b p q c sd w hm hc hx hy
      · exact asks_raw_out1 a b p q c sd w hm hc hx (by omega)
    · exact asks_raw_out2 a b p q c sd w hm hc (by omega)
  · by_cases hx : 0 ≤ p ∧ p < a
    · by_cases hy : 0 ≤ q ∧ q < b
      · exact asks_raw_in0 a b p q c sd w hm hc hx hy
      · exact asks_raw_in1 a b p q c sd w hm hc hx (by omega)
    · exact asks_raw_in2 a b p q c sd w hm hc (by omega)
theorem whereAsks_any (a b p q c d : Int) (raw : Bool) (w : World) :
    Calls Try.prog 3 #[.int .i64 a, .int .i64 b, .int .i64 p, .int .i64 q, .int .i64 c, .int .i64 d, .bool raw] w fun e w' => e = .returned (.bool true) ∧ Dr w w' := by
  cases raw
  · exact asks_near a b p q c d _ _ _ _ _ _ w (hide rfl) (hide rfl) (hide rfl) (hide rfl) (hide rfl) (hide rfl) (near_may a b)
  · cases hm : mayB a b
    · exact asks_raw_no a b p q c d w hm
    · exact asks_raw a b p q c d w hm

end Go.Proofs.Ytleoiibeaaagjaa
