/- What the document's own full, MayTile, Near, Bytes, SameTile, Ints, Cost, OwnTile answer, of tiles in memory: the same plain functions; nothing that was there is written. -/
import Derived.Test.YtjnoklfmdckidaaTWalks2
import Derived.Laws.AppendOwnNone
namespace Go.Proofs.Ytjnoklfmdckidaa
open Go.RowKit

/-- the cost that a number makes -/
def costF (x : Int) : Int := if x % 8 = 7 then 255 else if x < 160 then 1 + x % 4 else x
theorem costF_bd {x : Int} (h : 0 ≤ x ∧ x ≤ 255) : 1 ≤ costF x ∧ costF x ≤ 255 := by
  unfold costF
  split
  · omega
  · split <;> omega

end Go.Proofs.Ytjnoklfmdckidaa
