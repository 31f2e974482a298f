/- The document's Edges and SameRuns of two lists that are alike. -/
import Derived.Test.YtgbadbkipaccgaaGreatLPair
import Derived.Laws.StructEq
namespace Go.Proofs.YtgbadbkipaccgaaGreat
open Go.RowKit
set_option maxRecDepth 20000

theorem neq_edges (x y : Int) (w : World) : Sem.run Tryz.prog (binOp .neq 56 (.agg #[.int .i64 x, .int .i64 y]) (.agg #[.int .i64 x, .int .i64 y])) w = .ok (.bool false) w := by
  have u3 := Tryz.underlying3
  have a3 := Tryz.isAgg3
  have z3 := Tryz.sizeOf3
  have hS : Tryz.prog.underlying 56 = some (.struct (Tryz.prog.fieldsOf 56)) := by kernel_rfl
  have hp : Tryz.prog.stoodInHeld 56 = false := by kernel_rfl
  rw [run_neq_struct, show (10000 : Nat) = 9999 + 1 from rfl, run_equalIn_agg w 9999 56 _ _ hS hp]
  simp only [Program.fieldsOf, Tryz.underlying56]
  go_simp

set_option maxHeartbeats 2000000 in
theorem edges_same (a b : Option Addr) (n c d : Nat) (L : List (Int × Int)) (w : World) (h : PlS w a n c L) (g : PlS w b n d L) :
    Calls Tryz.prog 20 #[.slice a n c, .slice b n d] w fun e w' => e = .returned (.bool true) ∧ Dr w w' := by
  have hm := h.2.2.1
  have hm' := h.2.1
  unfold maxLen at hm
  have H := hide h
  have G := hide g
  clear h g
  go_enter Tryz.func20, Tryz.ntmps20
  go_wp2_with fail
  go_loopw [5] (fun i u => ∃ (s : Nat), s ≤ n ∧ i = .int .i64 s ∧ Dr w u) (fun i _ => n - (intOf i).toNat)
  case atStart => exact ⟨0, by omega, rfl, Dr.refl _⟩
  case round =>
    obtain ⟨s, hs, rfl, hd⟩ := hrel
    by_cases hsn : s < n
    · have hsn2 : (s : Int) < (n : Int) := by omega
      obtain ⟨B, o, rfl, hB, hc⟩ := H.out.at (by omega)
      obtain ⟨B2, o2, rfl, hB2, hc2⟩ := G.out.at (by omega)
      obtain ⟨c1, c2⟩ := hc s hsn
      obtain ⟨d1, d2⟩ := hc2 s hsn
      replace c1 := cell_gr c1 hd.gr
      replace c2 := cell_gr c2 hd.gr
      replace d1 := cell_gr d1 hd.gr
      replace d2 := cell_gr d2 hd.gr
      clear hc hc2
      generalize (elP L s).1 = x at *
      generalize (elP L s).2 = y at *
      have en : ∀ w, Sem.run Tryz.prog (binOp .neq 56 (.agg #[.int .i64 x, .int .i64 y]) (.agg #[.int .i64 x, .int .i64 y])) w = .ok (.bool false) w := fun w => neq_edges x y w
      go_wp2_with fail
      go_quiet (fail)
      go_wp2
      go_roundw
      case rel => exact ⟨s + 1, hsn, by go_num, by repeat (first | exact Dr.refl _ | assumption | refine Dr.add ?_ | refine Dr.trans ?_ (by assumption))⟩
      case measure => simp [intOf]; omega
    · go_wp2
      go_ret
      exact ⟨rfl, hd⟩

end Go.Proofs.YtgbadbkipaccgaaGreat
