/- What tally.Sum answers: each count Added. Conditions: the counts are numbers of 64 bits. -/
import Derived.Test.YtkekljlkgnfofaaYBelow
namespace Go.Proofs.Ytkekljlkgnfofaa
open Go.RowKit

set_option maxHeartbeats 2000000 in
theorem sum_any (f g : Nat → Int) (w : World) (hf : ∀ i, i < 6 → U (f i)) (hg : ∀ i, i < 6 → U (g i)) :
    Calls Try.prog 10 #[.agg #[.int .u64 (f 0), .int .u64 (f 1), .int .u64 (f 2), .int .u64 (f 3), .int .u64 (f 4), .int .u64 (f 5)], .agg #[.int .u64 (g 0), .int .u64 (g 1), .int .u64 (g 2), .int .u64 (g 3), .int .u64 (g 4), .int .u64 (g 5)]] w fun e w' => e = .returned (.agg #[.int .u64 (addF (f 0) (g 0)), .int .u64 (addF (f 1) (g 1)), .int .u64 (addF (f 2) (g 2)), .int .u64 (addF (f 3) (g 3)), .int .u64 (addF (f 4) (g 4)), .int .u64 (addF (f 5) (g 5))]) ∧ Gr w w' := by
  go_enter Try.func10, Try.ntmps10
  go_wp2_with fail
  go_region_held3 (fun z => z.cell? ⟨w.heap.size, 0, none⟩ = some (.int .u64 (f 0)) ∧ z.cell? ⟨w.heap.size, 1, none⟩ = some (.int .u64 (f 1)) ∧ z.cell? ⟨w.heap.size, 2, none⟩ = some (.int .u64 (f 2)) ∧ z.cell? ⟨w.heap.size, 3, none⟩ = some (.int .u64 (f 3)) ∧ z.cell? ⟨w.heap.size, 4, none⟩ = some (.int .u64 (f 4)) ∧ z.cell? ⟨w.heap.size, 5, none⟩ = some (.int .u64 (f 5)) ∧ z.cell? ⟨(w.heap.size + 1), 0, none⟩ = some (.int .u64 (g 0)) ∧ z.cell? ⟨(w.heap.size + 1), 1, none⟩ = some (.int .u64 (g 1)) ∧ z.cell? ⟨(w.heap.size + 1), 2, none⟩ = some (.int .u64 (g 2)) ∧ z.cell? ⟨(w.heap.size + 1), 3, none⟩ = some (.int .u64 (g 3)) ∧ z.cell? ⟨(w.heap.size + 1), 4, none⟩ = some (.int .u64 (g 4)) ∧ z.cell? ⟨(w.heap.size + 1), 5, none⟩ = some (.int .u64 (g 5))) (simp [go_sem]) ((go_at_call 8; (first | (with_reducible refine (add_any (f 0) (g 0) _ (hf 0 (by omega)) (hg 0 (by omega))).mono ?_) | (with_reducible refine (add_any (f 1) (g 1) _ (hf 1 (by omega)) (hg 1 (by omega))).mono ?_) | (with_reducible refine (add_any (f 2) (g 2) _ (hf 2 (by omega)) (hg 2 (by omega))).mono ?_) | (with_reducible refine (add_any (f 3) (g 3) _ (hf 3 (by omega)) (hg 3 (by omega))).mono ?_) | (with_reducible refine (add_any (f 4) (g 4) _ (hf 4 (by omega)) (hg 4 (by omega))).mono ?_) | (with_reducible refine (add_any (f 5) (g 5) _ (hf 5 (by omega)) (hg 5 (by omega))).mono ?_)); rintro e w9 ⟨rfl, rfl⟩))
  go_wp2_with fail
  exact bodyPost_ret (v := .agg #[.int .u64 (addF (f 0) (g 0)), .int .u64 (addF (f 1) (g 1)), .int .u64 (addF (f 2) (g 2)), .int .u64 (addF (f 3) (g 3)), .int .u64 (addF (f 4) (g 4)), .int .u64 (addF (f 5) (g 5))]) (by simp [results, Try.results10, go_sem]) rfl ⟨rfl, (by repeat (first | exact Gr.refl _ | assumption | exact Dr.gr (by assumption) | refine Gr.alloc ?_ _ | refine Gr.drewN ?_ _ | refine Gr.drew ?_ | (refine Gr.set ?_ (by first | exact Nat.le_refl _ | exact Nat.le_succ _ | (show _ ≤ _; omega) | (simp only [World.size_alloc] at *; omega)) _) | refine Gr.trans ?_ (by assumption) | refine Gr.trans ?_ (Dr.gr (by assumption))))⟩

end Go.Proofs.Ytkekljlkgnfofaa
