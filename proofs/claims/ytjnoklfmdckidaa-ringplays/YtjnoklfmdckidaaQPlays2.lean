/- RingPlays answers true at every input; nothing that was there is written. -/
import Derived.Test.YtjnoklfmdckidaaQPlays
namespace Go.Proofs.Ytjnoklfmdckidaa
open Go.RowKit
theorem ringPlays_any (f : Int) (al : Option Addr) (n cap : Nat) (z : Nat → Nat → Int) (raw : Bool) (w : World) (h : IsSt 3 w al n cap z) :
    Calls Try.prog 3 #[.int .i64 f, .slice al n cap, .bool raw] w fun e w' => e = .returned (.bool true) ∧ Gr w w' := by
  have hn := Nat.le_trans h.len.1 h.len.2
  cases raw
  · exact plays_near f al n cap z w h hn
  · by_cases c : 0 ≤ f ∧ f ≤ 1099511627776
    · exact plays_raw f al n cap z w h hn c.1 c.2
    · exact plays_out f al n cap w (by omega)
end Go.Proofs.Ytjnoklfmdckidaa
