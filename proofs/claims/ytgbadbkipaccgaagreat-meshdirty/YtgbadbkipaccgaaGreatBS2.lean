/- Whether two lists of seeds are the same: the program's and the document's; at most 60 of a list, a copy. No condition. -/
import Derived.Test.YtgbadbkipaccgaaGreatBS1
import Derived.Shelf.SlLaysF0
import Derived.Shelf.SlicesE.Clone
import Derived.Shelf.SlicesQ.Equal
import Derived.Laws.StructEq
namespace Go.Proofs.YtgbadbkipaccgaaGreat
open Go.RowKit
set_option maxRecDepth 20000

open Go.Shelf Go.Proofs

def laySort_ren : Go.Shelf.Ren := ⟨fun | 6 => 109 | 15 => 120 | 14 => 119 | 28 => 134 | 29 => 135 | 20 => 126 | 21 => 127 | 22 => 128 | 23 => 129 | 24 => 130 | 25 => 131 | 26 => 132 | 27 => 133 | 46 => 136 | 47 => 137 | 48 => 138 | 49 => 139 | 50 => 140 | 57 => 141 | n => n, fun | 22 => 88 | 24 => 87 | 25 => 131 | 3 => 3 | 39 => 110 | 0 => 0 | 53 => 140 | 55 => 35 | 4 => 4 | 46 => 147 | 45 => 146 | 50 => 99 | 5 => 5 | 9 => 9 | 66 => 154 | 70 => 157 | 76 => 159 | 77 => 62 | n => n, fun | n => n⟩
theorem laySort : Go.Proofs.SlLaysF0.n6 Tryz.prog laySort_ren := {
  mixed := by kernel_rfl,
  f6 := ⟨Tryz.f109.name, by decide, Tryz.func109.trans (congrArg some (by kernel_rfl))⟩,
  f14 := ⟨Tryz.f119.name, by decide, Tryz.func119.trans (congrArg some (by kernel_rfl))⟩,
  f15 := Tryz.func120.trans (congrArg some (by kernel_rfl)),
  f20 := ⟨Tryz.f126.name, by decide, Tryz.func126.trans (congrArg some (by kernel_rfl))⟩,
  f21 := ⟨Tryz.f127.name, by decide, Tryz.func127.trans (congrArg some (by kernel_rfl))⟩,
  f22 := ⟨Tryz.f128.name, by decide, Tryz.func128.trans (congrArg some (by kernel_rfl))⟩,
  f23 := ⟨Tryz.f129.name, by decide, Tryz.func129.trans (congrArg some (by kernel_rfl))⟩,
  f24 := ⟨Tryz.f130.name, by decide, Tryz.func130.trans (congrArg some (by kernel_rfl))⟩,
  f25 := ⟨Tryz.f131.name, by decide, Tryz.func131.trans (congrArg some (by kernel_rfl))⟩,
  f26 := ⟨Tryz.f132.name, by decide, Tryz.func132.trans (congrArg some (by kernel_rfl))⟩,
  f27 := ⟨Tryz.f133.name, by decide, Tryz.func133.trans (congrArg some (by kernel_rfl))⟩,
  f28 := Tryz.func134.trans (congrArg some (by kernel_rfl)),
  f29 := Tryz.func135.trans (congrArg some (by kernel_rfl)),
  f46 := ⟨Tryz.f136.name, by decide, Tryz.func136.trans (congrArg some (by kernel_rfl))⟩,
  f47 := Tryz.func137.trans (congrArg some (by kernel_rfl)),
  f48 := Tryz.func138.trans (congrArg some (by kernel_rfl)),
  f49 := ⟨Tryz.f139.name, by decide, Tryz.func139.trans (congrArg some (by kernel_rfl))⟩,
  f50 := ⟨Tryz.f140.name, by decide, Tryz.func140.trans (congrArg some (by kernel_rfl))⟩,
  f57 := ⟨Tryz.f141.name, by decide, Tryz.func141.trans (congrArg some (by kernel_rfl))⟩,
  t0 := Tryz.underlying0,
  a0 := Tryz.isAgg0,
  z0 := Tryz.sizeOf0,
  v0 := Tryz.zeroValue0,
  t3 := Tryz.underlying3,
  a3 := Tryz.isAgg3,
  z3 := Tryz.sizeOf3,
  v3 := Tryz.zeroValue3,
  t4 := Tryz.underlying4,
  a4 := Tryz.isAgg4,
  z4 := Tryz.sizeOf4,
  v4 := Tryz.zeroValue4,
  t5 := Tryz.underlying5,
  a5 := Tryz.isAgg5,
  z5 := Tryz.sizeOf5,
  v5 := Tryz.zeroValue5,
  t9 := Tryz.underlying9,
  a9 := Tryz.isAgg9,
  z9 := Tryz.sizeOf9,
  v9 := Tryz.zeroValue9,
  t22 := Tryz.underlying88,
  a22 := Tryz.isAgg88,
  z22 := Tryz.sizeOf88,
  v22 := Tryz.zeroValue88,
  t25 := Tryz.underlying131,
  a25 := Tryz.isAgg131,
  z25 := Tryz.sizeOf131,
  v25 := Tryz.zeroValue131,
  t39 := Tryz.underlying110,
  a39 := Tryz.isAgg110,
  z39 := Tryz.sizeOf110,
  v39 := Tryz.zeroValue110,
  t45 := Tryz.underlying146,
  a45 := Tryz.isAgg146,
  z45 := Tryz.sizeOf146,
  v45 := Tryz.zeroValue146,
  t46 := Tryz.underlying147,
  a46 := Tryz.isAgg147,
  z46 := Tryz.sizeOf147,
  v46 := Tryz.zeroValue147,
  t50 := Tryz.underlying99,
  a50 := Tryz.isAgg99,
  z50 := Tryz.sizeOf99,
  v50 := Tryz.zeroValue99,
  t53 := Tryz.underlying140,
  a53 := Tryz.isAgg140,
  z53 := Tryz.sizeOf140,
  v53 := Tryz.zeroValue140,
  t55 := Tryz.underlying35,
  a55 := Tryz.isAgg35,
  z55 := Tryz.sizeOf35,
  v55 := Tryz.zeroValue35,
  t66 := Tryz.underlying154,
  a66 := Tryz.isAgg154,
  z66 := Tryz.sizeOf154,
  v66 := Tryz.zeroValue154,
  t70 := Tryz.underlying157,
  a70 := Tryz.isAgg157,
  z70 := Tryz.sizeOf157,
  v70 := Tryz.zeroValue157,
  t76 := Tryz.underlying159,
  a76 := Tryz.isAgg159,
  z76 := Tryz.sizeOf159,
  v76 := Tryz.zeroValue159,
  t77 := Tryz.underlying62,
  a77 := Tryz.isAgg62,
  z77 := Tryz.sizeOf62,
  v77 := Tryz.zeroValue62 }
def layClone_ren : Go.Shelf.Ren := ⟨fun | 41 => 108 | n => n, fun | 22 => 88 | 23 => 87 | 4 => 4 | n => n, fun | n => n⟩
theorem layClone : Go.Proofs.SlLaysE0.n41 Tryz.prog layClone_ren := {
  mixed := by kernel_rfl,
  f41 := ⟨Tryz.f108.name, by decide, Tryz.func108.trans (congrArg some (by kernel_rfl))⟩,
  t4 := Tryz.underlying4,
  a4 := Tryz.isAgg4,
  z4 := Tryz.sizeOf4,
  v4 := Tryz.zeroValue4,
  t22 := Tryz.underlying88,
  a22 := Tryz.isAgg88,
  z22 := Tryz.sizeOf88,
  v22 := Tryz.zeroValue88 }
/-- what no way costs -/
def INF : Int := 1099511627776
theorem bstep_no {c s : Int} {a : Int × Bool} {x : Sd} (h : ¬ (x.1 = c ∧ x.2.1 = s ∧ (a.2 = false ∨ x.2.2 < a.1))) : bstep c s a x = a := if_neg h
theorem bstep_yes {c s : Int} {a : Int × Bool} {x : Sd} (h : x.1 = c ∧ x.2.1 = s ∧ (a.2 = false ∨ x.2.2 < a.1)) : bstep c s a x = (x.2.2, true) := if_pos h
theorem bst_next {inf c s : Int} {L : List Sd} {k : Nat} (h : k < L.length) : bst inf c s (L.take (k + 1)) = bstep c s (bst inf c s (L.take k)) (el L k) := by rw [take_el h, bst_snoc]

/-- the model's '==' at a seed -/
theorem eql_seed (x y : Sd) (w : World) : Sem.run Tryz.prog (binOp .eql 87 (.agg (encS x).toArray) (.agg (encS y).toArray)) w = .ok (.bool (decide (x = y))) w := by
  have u3 := Tryz.underlying3
  have a3 := Tryz.isAgg3
  have z3 := Tryz.sizeOf3
  have hS : Tryz.prog.underlying 87 = some (.struct (Tryz.prog.fieldsOf 87)) := by kernel_rfl
  have hp : Tryz.prog.stoodInHeld 87 = false := by kernel_rfl
  obtain ⟨a, b, c⟩ := x
  obtain ⟨d, e, f⟩ := y
  simp only [encS]
  rw [run_eql_struct, show (10000 : Nat) = 9999 + 1 from rfl, run_equalIn_agg w 9999 87 _ _ hS hp]
  simp only [Program.fieldsOf, Tryz.underlying87]
  go_simp
  by_cases h1 : a = d <;> by_cases h2 : b = e <;> by_cases h3 : c = f <;> simp [h1, h2, h3]

theorem neq_seed (x y : Sd) (w : World) : Sem.run Tryz.prog (binOp .neq 87 (.agg (encS x).toArray) (.agg (encS y).toArray)) w = .ok (.bool (!decide (x = y))) w := by
  have u3 := Tryz.underlying3
  have a3 := Tryz.isAgg3
  have z3 := Tryz.sizeOf3
  have hS : Tryz.prog.underlying 87 = some (.struct (Tryz.prog.fieldsOf 87)) := by kernel_rfl
  have hp : Tryz.prog.stoodInHeld 87 = false := by kernel_rfl
  obtain ⟨a, b, c⟩ := x
  obtain ⟨d, e, f⟩ := y
  simp only [encS]
  rw [run_neq_struct, show (10000 : Nat) = 9999 + 1 from rfl, run_equalIn_agg w 9999 87 _ _ hS hp]
  simp only [Program.fieldsOf, Tryz.underlying87]
  go_simp
  by_cases h1 : a = d <;> by_cases h2 : b = e <;> by_cases h3 : c = f <;> simp [h1, h2, h3]
theorem el_ext {L M : List Sd} {n : Nat} (h : L.length = n) (g : M.length = n) (e : ∀ j, j < n → el L j = el M j) : L = M := by
  apply List.ext_getElem (by rw [h, g])
  intro i h1 h2
  rw [el_getElem h1, el_getElem h2]
  exact e i (by omega)

end Go.Proofs.YtgbadbkipaccgaaGreat
