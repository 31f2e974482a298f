/- What the document's own In, May, IsCell, Step, Side, Sectors answer: the same plain functions of WMath; nothing is written. -/
import Derived.Test.YtcbcekgjpcpibaaDoorWWalks3
namespace Go.Proofs.YtcbcekgjpcpibaaDoor
open Go.RowKit

set_option maxHeartbeats 400000 in
theorem in_yes (n lo hi : Int) (w : World) (h1 : lo ≤ n) (h2 : n ≤ hi) :
    Calls Tryd.prog 18 #[.int .i64 n, .int .i64 lo, .int .i64 hi] w fun e w' => e = .returned (.bool true) ∧ Dr w w' := by
  go_enter Tryd.func18, Tryd.ntmps18
  go_wp2
  go_ret
  exact ⟨rfl, Dr.refl _⟩

set_option maxHeartbeats 400000 in
theorem in_no (n lo hi : Int) (w : World) (h : n < lo ∨ hi < n) :
    Calls Tryd.prog 18 #[.int .i64 n, .int .i64 lo, .int .i64 hi] w fun e w' => e = .returned (.bool false) ∧ Dr w w' := by
  by_cases h1 : lo ≤ n
  · have h2 : ¬ n ≤ hi := by omega
    clear h
    go_enter Tryd.func18, Tryd.ntmps18
    go_wp2
    go_ret
    exact ⟨rfl, Dr.refl _⟩
  · clear h
    go_enter Tryd.func18, Tryd.ntmps18
    go_wp2
    go_ret
    exact ⟨rfl, Dr.refl _⟩

end Go.Proofs.YtcbcekgjpcpibaaDoor
