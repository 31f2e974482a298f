/- Whether two lists of seeds are the same: the program's and the document's; at most 60 of a list, a copy. No condition. -/
import Derived.Test.YtigoehoaplndiaaSBest8
namespace Go.Proofs.Ytigoehoaplndiaa
open Go.RowKit
set_option maxRecDepth 20000

theorem neq_seed (x y : Sd) (w : World) : Sem.run Try.prog (binOp .neq 39 (.agg (encS x).toArray) (.agg (encS y).toArray)) w = .ok (.bool (!decide (x = y))) w := by
  have u3 := Try.underlying3
  have a3 := Try.isAgg3
  have z3 := Try.sizeOf3
  have hS : Try.prog.underlying 39 = some (.struct (Try.prog.fieldsOf 39)) := by kernel_rfl
  have hp : Try.prog.stoodInHeld 39 = false := by kernel_rfl
  obtain ⟨a, b, c⟩ := x
  obtain ⟨d, e, f⟩ := y
  simp only [encS]
  rw [run_neq_struct, show (10000 : Nat) = 9999 + 1 from rfl, run_equalIn_agg w 9999 39 _ _ hS hp]
  simp only [Program.fieldsOf, Try.underlying39]
  go_simp
  by_cases h1 : a = d <;> by_cases h2 : b = e <;> by_cases h3 : c = f <;> simp [h1, h2, h3]
theorem el_ext {L M : List Sd} {n : Nat} (h : L.length = n) (g : M.length = n) (e : ∀ j, j < n → el L j = el M j) : L = M := by
  apply List.ext_getElem (by rw [h, g])
  intro i h1 h2
  rw [el_getElem h1, el_getElem h2]
  exact e i (by omega)

end Go.Proofs.Ytigoehoaplndiaa
