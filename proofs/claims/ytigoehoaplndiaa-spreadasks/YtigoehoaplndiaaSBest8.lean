/- The least key by a cell and a side; whether two lists are the same; at most 60 of a list: the program's and the document's. No condition. -/
import Derived.Test.YtigoehoaplndiaaSCmp8
import Derived.Laws.StructEq
import Derived.Shelf.SlicesQ.Equal
import Derived.Test.YtigoehoaplndiaaSLay
namespace Go.Proofs.Ytigoehoaplndiaa
open Go.RowKit
set_option maxRecDepth 20000

/-- what no way costs -/
def INF : Int := 1099511627776
theorem bstep_no {c s : Int} {a : Int × Bool} {x : Sd} (h : ¬ (x.1 = c ∧ x.2.1 = s ∧ (a.2 = false ∨ x.2.2 < a.1))) : bstep c s a x = a := if_neg h
theorem bstep_yes {c s : Int} {a : Int × Bool} {x : Sd} (h : x.1 = c ∧ x.2.1 = s ∧ (a.2 = false ∨ x.2.2 < a.1)) : bstep c s a x = (x.2.2, true) := if_pos h
theorem bst_next {inf c s : Int} {L : List Sd} {k : Nat} (h : k < L.length) : bst inf c s (L.take (k + 1)) = bstep c s (bst inf c s (L.take k)) (el L k) := by rw [take_el h, bst_snoc]

/-- the model's '==' at a seed -/
theorem eql_seed (x y : Sd) (w : World) : Sem.run Try.prog (binOp .eql 39 (.agg (encS x).toArray) (.agg (encS y).toArray)) w = .ok (.bool (decide (x = y))) w := by
  have u3 := Try.underlying3
  have a3 := Try.isAgg3
  have z3 := Try.sizeOf3
  have hS : Try.prog.underlying 39 = some (.struct (Try.prog.fieldsOf 39)) := by kernel_rfl
  have hp : Try.prog.stoodInHeld 39 = false := by kernel_rfl
  obtain ⟨a, b, c⟩ := x
  obtain ⟨d, e, f⟩ := y
  simp only [encS]
  rw [run_eql_struct, show (10000 : Nat) = 9999 + 1 from rfl, run_equalIn_agg w 9999 39 _ _ hS hp]
  simp only [Program.fieldsOf, Try.underlying39]
  go_simp
  by_cases h1 : a = d <;> by_cases h2 : b = e <;> by_cases h3 : c = f <;> simp [h1, h2, h3]

end Go.Proofs.Ytigoehoaplndiaa
