/- Two structs of six counts are the same just if each count is. No condition. -/
import Derived.Test.YtkekljlkgnfofaaYBelow
namespace Go.Proofs.Ytkekljlkgnfofaa
open Go.RowKit

def eqB (f h : Nat → Int) : Bool := ((((f 0 == h 0 && f 1 == h 1) && f 2 == h 2) && f 3 == h 3) && f 4 == h 4) && f 5 == h 5
set_option maxHeartbeats 1000000 in
theorem eq6 (f h : Nat → Int) (w : World) : (binOp .eql 27 (.agg #[.int .u64 (f 0), .int .u64 (f 1), .int .u64 (f 2), .int .u64 (f 3), .int .u64 (f 4), .int .u64 (f 5)]) (.agg #[.int .u64 (h 0), .int .u64 (h 1), .int .u64 (h 2), .int .u64 (h 3), .int .u64 (h 4), .int .u64 (h 5)])).run Try.prog w = .ok (.bool (eqB f h)) w := by
  by_cases h0 : f 0 = h 0
  rotate_left
  · have e : eqB f h = false := by simp [eqB, h0]
    rw [e]
    go_simp
  by_cases h1 : f 1 = h 1
  rotate_left
  · have e : eqB f h = false := by simp [eqB, h1]
    rw [e]
    go_simp
  by_cases h2 : f 2 = h 2
  rotate_left
  · have e : eqB f h = false := by simp [eqB, h2]
    rw [e]
    go_simp
  by_cases h3 : f 3 = h 3
  rotate_left
  · have e : eqB f h = false := by simp [eqB, h3]
    rw [e]
    go_simp
  by_cases h4 : f 4 = h 4
  rotate_left
  · have e : eqB f h = false := by simp [eqB, h4]
    rw [e]
    go_simp
  by_cases h5 : f 5 = h 5
  rotate_left
  · have e : eqB f h = false := by simp [eqB, h5]
    rw [e]
    go_simp
  have e : eqB f h = true := by simp [eqB, h0, h1, h2, h3, h4, h5]
  rw [e]
  go_simp

end Go.Proofs.Ytkekljlkgnfofaa
