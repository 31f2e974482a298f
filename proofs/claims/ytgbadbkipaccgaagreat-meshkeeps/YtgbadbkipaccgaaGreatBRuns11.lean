/- What border's Runs makes: a row of its own; nothing that was there is written. -/
import Derived.Test.YtgbadbkipaccgaaGreatBCross11
import Derived.Deep.AppendLies
namespace Go.Proofs.YtgbadbkipaccgaaGreat
open Go.RowKit
set_option maxRecDepth 20000

theorem runsL_at {W H : Int} {N : Nat} {f : Nat → Int} {s side : Nat} (hs : isSectorB W H s = true) (h3 : side ≤ 3) : runsL W H N f s side = runsK (plcB W H N f s side) (longF W H s side) := by
  unfold runsL
  rw [if_pos ⟨hs, by omega, by omega⟩, Int.toNat_natCast, Int.toNat_natCast]
theorem runsL_no {W H : Int} {N : Nat} {f : Nat → Int} {s side : Int} (h : isSectorB W H s = false ∨ side < 0 ∨ 3 < side) : runsL W H N f s side = [] := by
  unfold runsL
  rw [if_neg]
  rintro ⟨a, b, c⟩
  rcases h with h | h
  · rw [a] at h; cases h
  · omega
/-- the last run made longer, in its own row -/
theorem runs_store {w : World} {base g cap n : Nat} {e : TypeId} {M : List (Int × Int)} {x y : Int} (z : Int) (hn : M.length = n) (h : w.ownsRow base e 2 (.slice (some ⟨g, 0, none⟩) (n + 1) cap) (n + 1) (flatP (M ++ [(x, y)]))) :
    (w.setCell ⟨g, n * 2 + 1, none⟩ (.int .i64 z)).ownsRow base e 2 (.slice (some ⟨g, 0, none⟩) (n + 1) cap) (n + 1) (flatP (M ++ [(x, z)])) ∧ w.cell? ⟨g, n * 2 + 1, none⟩ = some (.int .i64 y) ∧ w.frozen? ⟨g, n * 2 + 1, none⟩ = false := by
  subst hn
  refine ⟨?_, ?_, h.frozenAt _⟩
  · rw [← flatP_last M x y z]
    exact (h.stored _ _).1
  · rw [h.cellAt _ (by omega), flatP_app, flatP_one, List.getElem?_append_right (by rw [flatP_len]; omega), flatP_len, show M.length * 2 + 1 - M.length * 2 = 1 by omega]
    rfl

end Go.Proofs.YtgbadbkipaccgaaGreat
