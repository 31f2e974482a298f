/- The statements' own helpers of layer 2: the example of four costs is as told; 'near' gives a tile of numbers, or a copy. -/
import Derived.Test.YtigoehoaplndiaaTMade2
namespace Go.Proofs.Ytigoehoaplndiaa
open Go.RowKit

def toldF (i : Nat) : Int := if i = 0 then 1 else if i = 1 then 255 else if i = 2 then 3 else 4
theorem told_sl (w : World) : Sl (w.alloc (.cells #[.int .u8 1, .int .u8 255, .int .u8 3, .int .u8 4] 5)) (some ⟨w.heap.size, 0, none⟩) 4 toldF := by
  refine ⟨fun i hi => ?_, .inr ⟨w.heap.size, 0, rfl, by simp only [World.size_alloc]; omega, fun i hi => ?_⟩⟩
  · rcases (by omega : i = 0 ∨ i = 1 ∨ i = 2 ∨ i = 3) with rfl | rfl | rfl | rfl <;> decide
  · rcases (by omega : i = 0 ∨ i = 1 ∨ i = 2 ∨ i = 3) with rfl | rfl | rfl | rfl <;> simp [go_sem, toldF]
theorem told_open {w : World} {base : Nat} {v : Value} (h : w.ownsRow base 3 1 v (openL 4 toldF).length (openV 4 toldF)) :
    ∃ g c, v = .slice (some ⟨g, 0, none⟩) 3 c ∧ g < w.heap.size ∧ w.cell? ⟨g, 1, none⟩ = some (.int .i64 2) := by
  rw [openV_cel] at h
  have e : openL 4 toldF = [0, 2, 3] := by decide
  have ef : openF 4 toldF 1 = 2 := by decide
  obtain ⟨a, c, rfl, _, _, hh⟩ := own_form h
  rw [e] at hh
  rcases hh with hh | ⟨g, rfl, _, hg, hc⟩
  · simp at hh
  · have := hc 1 (by simp)
    rw [ef] at this
    exact ⟨g, c, by rw [e]; rfl, hg, this⟩

end Go.Proofs.Ytigoehoaplndiaa
