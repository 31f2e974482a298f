/- The statements' 'near': a tile of numbers, or a copy; the document's Ints of two lists that are alike. -/
import Derived.Test.YtobankjdgdjehaaTMates
namespace Go.Proofs.Ytobankjdgdjehaa
open Go.RowKit

theorem tri_at (w : World) (W H : Int) (v : Value) : (w.alloc (.cells #[.int .i64 W, .int .i64 H, v] 24)).cell? ⟨w.heap.size, 0, none⟩ = some (.int .i64 W) ∧ (w.alloc (.cells #[.int .i64 W, .int .i64 H, v] 24)).cell? ⟨w.heap.size, 1, none⟩ = some (.int .i64 H) ∧ (w.alloc (.cells #[.int .i64 W, .int .i64 H, v] 24)).cell? ⟨w.heap.size, 2, none⟩ = some v :=
  ⟨(tri_alloc w _ _ _ _).cell (i := 0) (by omega), (tri_alloc w _ _ _ _).cell (i := 1) (by omega), (tri_alloc w _ _ _ _).cell (i := 2) (by omega)⟩

end Go.Proofs.Ytobankjdgdjehaa
