/- Whether two lists of seeds are the same: the program's and the document's; at most 60 of a list, a copy. No condition. -/
import Derived.Test.YtjgpcjlpdgedoaaBS1
import Derived.Shelf.SlLaysF0
import Derived.Shelf.SlicesE.Clone
import Derived.Shelf.SlicesQ.Equal
import Derived.Laws.StructEq
namespace Go.Proofs.Ytjgpcjlpdgedoaa
open Go.RowKit
set_option maxRecDepth 20000

open Go.Shelf Go.Proofs

def laySort_ren : Go.Shelf.Ren := ⟨fun | 6 => 44 | 15 => 59 | 14 => 58 | 28 => 75 | 29 => 76 | 20 => 67 | 21 => 68 | 22 => 69 | 23 => 70 | 24 => 71 | 25 => 72 | 26 => 73 | 27 => 74 | 46 => 78 | 47 => 79 | 48 => 80 | 49 => 81 | 50 => 82 | 57 => 83 | n => n, fun | 22 => 41 | 24 => 40 | 25 => 67 | 3 => 3 | 39 => 71 | 0 => 0 | 53 => 83 | 55 => 86 | 4 => 4 | 46 => 91 | 45 => 90 | 50 => 95 | 5 => 5 | 9 => 9 | 66 => 99 | 70 => 103 | 76 => 105 | 77 => 69 | n => n, fun | n => n⟩
theorem laySort : Go.Proofs.SlLaysF0.n6 Try.prog laySort_ren := {
  mixed := by kernel_rfl,
  f6 := ⟨Try.f44.name, by decide, Try.func44.trans (congrArg some (by kernel_rfl))⟩,
  f14 := ⟨Try.f58.name, by decide, Try.func58.trans (congrArg some (by kernel_rfl))⟩,
  f15 := Try.func59.trans (congrArg some (by kernel_rfl)),
  f20 := ⟨Try.f67.name, by decide, Try.func67.trans (congrArg some (by kernel_rfl))⟩,
  f21 := ⟨Try.f68.name, by decide, Try.func68.trans (congrArg some (by kernel_rfl))⟩,
  f22 := ⟨Try.f69.name, by decide, Try.func69.trans (congrArg some (by kernel_rfl))⟩,
  f23 := ⟨Try.f70.name, by decide, Try.func70.trans (congrArg some (by kernel_rfl))⟩,
  f24 := ⟨Try.f71.name, by decide, Try.func71.trans (congrArg some (by kernel_rfl))⟩,
  f25 := ⟨Try.f72.name, by decide, Try.func72.trans (congrArg some (by kernel_rfl))⟩,
  f26 := ⟨Try.f73.name, by decide, Try.func73.trans (congrArg some (by kernel_rfl))⟩,
  f27 := ⟨Try.f74.name, by decide, Try.func74.trans (congrArg some (by kernel_rfl))⟩,
  f28 := Try.func75.trans (congrArg some (by kernel_rfl)),
  f29 := Try.func76.trans (congrArg some (by kernel_rfl)),
  f46 := ⟨Try.f78.name, by decide, Try.func78.trans (congrArg some (by kernel_rfl))⟩,
  f47 := Try.func79.trans (congrArg some (by kernel_rfl)),
  f48 := Try.func80.trans (congrArg some (by kernel_rfl)),
  f49 := ⟨Try.f81.name, by decide, Try.func81.trans (congrArg some (by kernel_rfl))⟩,
  f50 := ⟨Try.f82.name, by decide, Try.func82.trans (congrArg some (by kernel_rfl))⟩,
  f57 := ⟨Try.f83.name, by decide, Try.func83.trans (congrArg some (by kernel_rfl))⟩,
  t0 := Try.underlying0,
  a0 := Try.isAgg0,
  z0 := Try.sizeOf0,
  v0 := Try.zeroValue0,
  t3 := Try.underlying3,
  a3 := Try.isAgg3,
  z3 := Try.sizeOf3,
  v3 := Try.zeroValue3,
  t4 := Try.underlying4,
  a4 := Try.isAgg4,
  z4 := Try.sizeOf4,
  v4 := Try.zeroValue4,
  t5 := Try.underlying5,
  a5 := Try.isAgg5,
  z5 := Try.sizeOf5,
  v5 := Try.zeroValue5,
  t9 := Try.underlying9,
  a9 := Try.isAgg9,
  z9 := Try.sizeOf9,
  v9 := Try.zeroValue9,
  t22 := Try.underlying41,
  a22 := Try.isAgg41,
  z22 := Try.sizeOf41,
  v22 := Try.zeroValue41,
  t25 := Try.underlying67,
  a25 := Try.isAgg67,
  z25 := Try.sizeOf67,
  v25 := Try.zeroValue67,
  t39 := Try.underlying71,
  a39 := Try.isAgg71,
  z39 := Try.sizeOf71,
  v39 := Try.zeroValue71,
  t45 := Try.underlying90,
  a45 := Try.isAgg90,
  z45 := Try.sizeOf90,
  v45 := Try.zeroValue90,
  t46 := Try.underlying91,
  a46 := Try.isAgg91,
  z46 := Try.sizeOf91,
  v46 := Try.zeroValue91,
  t50 := Try.underlying95,
  a50 := Try.isAgg95,
  z50 := Try.sizeOf95,
  v50 := Try.zeroValue95,
  t53 := Try.underlying83,
  a53 := Try.isAgg83,
  z53 := Try.sizeOf83,
  v53 := Try.zeroValue83,
  t55 := Try.underlying86,
  a55 := Try.isAgg86,
  z55 := Try.sizeOf86,
  v55 := Try.zeroValue86,
  t66 := Try.underlying99,
  a66 := Try.isAgg99,
  z66 := Try.sizeOf99,
  v66 := Try.zeroValue99,
  t70 := Try.underlying103,
  a70 := Try.isAgg103,
  z70 := Try.sizeOf103,
  v70 := Try.zeroValue103,
  t76 := Try.underlying105,
  a76 := Try.isAgg105,
  z76 := Try.sizeOf105,
  v76 := Try.zeroValue105,
  t77 := Try.underlying69,
  a77 := Try.isAgg69,
  z77 := Try.sizeOf69,
  v77 := Try.zeroValue69 }
def layClone_ren : Go.Shelf.Ren := ⟨fun | 41 => 43 | n => n, fun | 22 => 41 | 23 => 40 | 4 => 4 | n => n, fun | n => n⟩
theorem layClone : Go.Proofs.SlLaysE0.n41 Try.prog layClone_ren := {
  mixed := by kernel_rfl,
  f41 := ⟨Try.f43.name, by decide, Try.func43.trans (congrArg some (by kernel_rfl))⟩,
  t4 := Try.underlying4,
  a4 := Try.isAgg4,
  z4 := Try.sizeOf4,
  v4 := Try.zeroValue4,
  t22 := Try.underlying41,
  a22 := Try.isAgg41,
  z22 := Try.sizeOf41,
  v22 := Try.zeroValue41 }
/-- what no way costs -/
def INF : Int := 1099511627776
theorem bstep_no {c s : Int} {a : Int × Bool} {x : Sd} (h : ¬ (x.1 = c ∧ x.2.1 = s ∧ (a.2 = false ∨ x.2.2 < a.1))) : bstep c s a x = a := if_neg h
theorem bstep_yes {c s : Int} {a : Int × Bool} {x : Sd} (h : x.1 = c ∧ x.2.1 = s ∧ (a.2 = false ∨ x.2.2 < a.1)) : bstep c s a x = (x.2.2, true) := if_pos h
theorem bst_next {inf c s : Int} {L : List Sd} {k : Nat} (h : k < L.length) : bst inf c s (L.take (k + 1)) = bstep c s (bst inf c s (L.take k)) (el L k) := by rw [take_el h, bst_snoc]

/-- the model's '==' at a seed -/
theorem eql_seed (x y : Sd) (w : World) : Sem.run Try.prog (binOp .eql 40 (.agg (encS x).toArray) (.agg (encS y).toArray)) w = .ok (.bool (decide (x = y))) w := by
  have u3 := Try.underlying3
  have a3 := Try.isAgg3
  have z3 := Try.sizeOf3
  have hS : Try.prog.underlying 40 = some (.struct (Try.prog.fieldsOf 40)) := by kernel_rfl
  have hp : Try.prog.stoodInHeld 40 = false := by kernel_rfl
  obtain ⟨a, b, c⟩ := x
  obtain ⟨d, e, f⟩ := y
  simp only [encS]
  rw [run_eql_struct, show (10000 : Nat) = 9999 + 1 from rfl, run_equalIn_agg w 9999 40 _ _ hS hp]
  simp only [Program.fieldsOf, Try.underlying40]
  go_simp
  by_cases h1 : a = d <;> by_cases h2 : b = e <;> by_cases h3 : c = f <;> simp [h1, h2, h3]

theorem neq_seed (x y : Sd) (w : World) : Sem.run Try.prog (binOp .neq 40 (.agg (encS x).toArray) (.agg (encS y).toArray)) w = .ok (.bool (!decide (x = y))) w := by
  have u3 := Try.underlying3
  have a3 := Try.isAgg3
  have z3 := Try.sizeOf3
  have hS : Try.prog.underlying 40 = some (.struct (Try.prog.fieldsOf 40)) := by kernel_rfl
  have hp : Try.prog.stoodInHeld 40 = false := by kernel_rfl
  obtain ⟨a, b, c⟩ := x
  obtain ⟨d, e, f⟩ := y
  simp only [encS]
  rw [run_neq_struct, show (10000 : Nat) = 9999 + 1 from rfl, run_equalIn_agg w 9999 40 _ _ hS hp]
  simp only [Program.fieldsOf, Try.underlying40]
  go_simp
  by_cases h1 : a = d <;> by_cases h2 : b = e <;> by_cases h3 : c = f <;> simp [h1, h2, h3]
theorem el_ext {L M : List Sd} {n : Nat} (h : L.length = n) (g : M.length = n) (e : ∀ j, j < n → el L j = el M j) : L = M := by
  apply List.ext_getElem (by rw [h, g])
  intro i h1 h2
  rw [el_getElem h1, el_getElem h2]
  exact e i (by omega)

end Go.Proofs.Ytjgpcjlpdgedoaa
