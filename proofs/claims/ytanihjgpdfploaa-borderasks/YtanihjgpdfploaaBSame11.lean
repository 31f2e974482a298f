/- The document's Edges and SameRuns of two lists that are alike. -/
import Derived.Test.YtanihjgpdfploaaLPair
import Derived.Laws.StructEq
namespace Go.Proofs.Ytanihjgpdfploaa
open Go.RowKit
set_option maxRecDepth 20000

theorem neq_edges (x y : Int) (w : World) : Sem.run Try.prog (binOp .neq 49 (.agg #[.int .i64 x, .int .i64 y]) (.agg #[.int .i64 x, .int .i64 y])) w = .ok (.bool false) w := by
  have u3 := Try.underlying3
  have a3 := Try.isAgg3
  have z3 := Try.sizeOf3
  have hS : Try.prog.underlying 49 = some (.struct (Try.prog.fieldsOf 49)) := by kernel_rfl
  have hp : Try.prog.stoodInHeld 49 = false := by kernel_rfl
  rw [run_neq_struct, show (10000 : Nat) = 9999 + 1 from rfl, run_equalIn_agg w 9999 49 _ _ hS hp]
  simp only [Program.fieldsOf, Try.underlying49]
  go_simp

set_option maxHeartbeats 2000000 in
theorem edges_same (a b : Option Addr) (n c d : Nat) (L : List (Int × Int)) (w : World) (h : PlS w a n c L) (g : PlS w b n d L) :
    Calls Try.prog 23 #[.slice a n c, .slice b n d] w fun e w' => e = .returned (.bool true) ∧ Dr w w' := by
  have hm := h.2.2.1
  have hm' := h.2.1
  unfold maxLen at hm
  have H := hide h
  have G := hide g
  clear h g
  go_enter Try.func23, Try.ntmps23
  go_wp2_with fail
  go_loopw [5] (fun i u => ∃ (s : Nat), s ≤ n ∧ i = .int .i64 s ∧ Dr w u) (fun i _ => n - (intOf i).toNat)
  case atStart => exact ⟨0, by omega, rfl, Dr.refl _⟩
  case round =>
    obtain ⟨s, hs, rfl, hd⟩ := hrel
    by_cases hsn : s < n
    · have hsn2 : (s : Int) < (n : Int) := by omega
      obtain ⟨B, o, rfl, hB, hc⟩ := H.out.at (by omega)
      obtain ⟨B2, o2, rfl, hB2, hc2⟩ := G.out.at (by omega)
      obtain ⟨c1, c2⟩ := hc s hsn
      obtain ⟨d1, d2⟩ := hc2 s hsn
      replace c1 := cell_gr c1 hd.gr
      replace c2 := cell_gr c2 hd.gr
      replace d1 := cell_gr d1 hd.gr
      replace d2 := cell_gr d2 hd.gr
      clear hc hc2
      generalize (elP L s).1 = x at *
      generalize (elP L s).2 = y at *
      have en : ∀ w, Sem.run Try.prog (binOp .neq 49 (.agg #[.int .i64 x, .int .i64 y]) (.agg #[.int .i64 x, .int .i64 y])) w = .ok (.bool false) w := fun w => neq_edges x y w
      go_wp2_with fail
      go_quiet (fail)
      go_wp2
      go_roundw
      case rel => exact ⟨s + 1, hsn, by go_num, by repeat (first | exact Dr.refl _ | assumption | refine Dr.add ?_ | refine Dr.trans ?_ (by assumption))⟩
      case measure => simp [intOf]; omega
    · go_wp2
      go_ret
      exact ⟨rfl, hd⟩

theorem neq_runs (x y : Int) (w : World) : Sem.run Try.prog (binOp .neq 53 (.agg #[.int .i64 x, .int .i64 y]) (.agg #[.int .i64 x, .int .i64 y])) w = .ok (.bool false) w := by
  have u3 := Try.underlying3
  have a3 := Try.isAgg3
  have z3 := Try.sizeOf3
  have hS : Try.prog.underlying 53 = some (.struct (Try.prog.fieldsOf 53)) := by kernel_rfl
  have hp : Try.prog.stoodInHeld 53 = false := by kernel_rfl
  rw [run_neq_struct, show (10000 : Nat) = 9999 + 1 from rfl, run_equalIn_agg w 9999 53 _ _ hS hp]
  simp only [Program.fieldsOf, Try.underlying53]
  go_simp

set_option maxHeartbeats 2000000 in
theorem runs_same (a b : Option Addr) (n c d : Nat) (L : List (Int × Int)) (w : World) (h : PlS w a n c L) (g : PlS w b n d L) :
    Calls Try.prog 20 #[.slice a n c, .slice b n d] w fun e w' => e = .returned (.bool true) ∧ Dr w w' := by
  have hm := h.2.2.1
  have hm' := h.2.1
  unfold maxLen at hm
  have H := hide h
  have G := hide g
  clear h g
  go_enter Try.func20, Try.ntmps20
  go_wp2_with fail
  go_loopw [5] (fun i u => ∃ (s : Nat), s ≤ n ∧ i = .int .i64 s ∧ Dr w u) (fun i _ => n - (intOf i).toNat)
  case atStart => exact ⟨0, by omega, rfl, Dr.refl _⟩
  case round =>
    obtain ⟨s, hs, rfl, hd⟩ := hrel
    by_cases hsn : s < n
    · have hsn2 : (s : Int) < (n : Int) := by omega
      obtain ⟨B, o, rfl, hB, hc⟩ := H.out.at (by omega)
      obtain ⟨B2, o2, rfl, hB2, hc2⟩ := G.out.at (by omega)
      obtain ⟨c1, c2⟩ := hc s hsn
      obtain ⟨d1, d2⟩ := hc2 s hsn
      replace c1 := cell_gr c1 hd.gr
      replace c2 := cell_gr c2 hd.gr
      replace d1 := cell_gr d1 hd.gr
      replace d2 := cell_gr d2 hd.gr
      clear hc hc2
      generalize (elP L s).1 = x at *
      generalize (elP L s).2 = y at *
      have en : ∀ w, Sem.run Try.prog (binOp .neq 53 (.agg #[.int .i64 x, .int .i64 y]) (.agg #[.int .i64 x, .int .i64 y])) w = .ok (.bool false) w := fun w => neq_runs x y w
      go_wp2_with fail
      go_quiet (fail)
      go_wp2
      go_roundw
      case rel => exact ⟨s + 1, hsn, by go_num, by repeat (first | exact Dr.refl _ | assumption | refine Dr.add ?_ | refine Dr.trans ?_ (by assumption))⟩
      case measure => simp [intOf]; omega
    · go_wp2
      go_ret
      exact ⟨rfl, hd⟩
end Go.Proofs.Ytanihjgpdfploaa
