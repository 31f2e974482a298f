/- TileMates' walk: it answers true at every input; nothing that was there is written. -/
import Derived.Test.YtigoehoaplndiaaTLaws
import Derived.Deep.RegionHeld3
namespace Go.Proofs.Ytigoehoaplndiaa
open Go.RowKit

/-- a tile of numbers may be -/
theorem made_may {x y : Int} {n N : Nat} {f : Nat → Int} (hf : ∀ i, i < n → 0 ≤ f i ∧ f i ≤ 255) (hN : (N : Int) = withinF x 1 16 * withinF y 1 16) : mayTB (withinF x 1 16) (withinF y 1 16) N (madeF n f) = true := by
  have xb := within_bd x 1 16 (by omega)
  have yb := within_bd y 1 16 (by omega)
  exact (mayTB_iff _ _ _ _).2 ⟨xb, yb, hN, fun i _ => by have := madeF_bd hf i; omega⟩

/-- what the edges tell of the four neighbours -/
theorem edges {W H l : Int} (hc : isCellB W H l = true) :
    decide (stepF W H l 0 < 0) = decide (l < W) ∧ decide (stepF W H l 1 < 0) = (l % W == W - 1) ∧ decide (stepF W H l 2 < 0) = decide (W * H - W ≤ l) ∧ decide (stepF W H l 3 < 0) = (l % W == 0) := by
  obtain ⟨e0, e1, e2, e3, _⟩ := step_lin hc
  obtain ⟨p1, p2, p3, p4, p5⟩ := place_bd hc
  obtain ⟨m, c0, c1⟩ := (isCellB_iff _ _ _).1 hc
  obtain ⟨m1, m2, m3, m4⟩ := (mayB_iff _ _).1 m
  have q0 := Int.mul_nonneg p3 (show 0 ≤ W by omega)
  have q1 : 1 ≤ l / W ↔ W ≤ l := by rw [Int.le_ediv_iff_mul_le (by omega), Int.one_mul]
  have q2 : H - 1 ≤ l / W ↔ W * H - W ≤ l := by rw [Int.le_ediv_iff_mul_le (by omega), Int.sub_mul, Int.one_mul, Int.mul_comm]
  refine ⟨?_, ?_, ?_, ?_⟩
  · rw [decide_eq_decide, e0]; split <;> omega
  · rw [Bool.eq_iff_iff, decide_eq_true_eq, beq_iff_eq, e1]; split <;> omega
  · rw [decide_eq_decide, e2]
    split
    · rename_i h
      have : ¬ H - 1 ≤ l / W := by omega
      rw [q2] at this
      omega
    · rename_i h
      have : H - 1 ≤ l / W := by omega
      rw [q2] at this
      omega
  · rw [Bool.eq_iff_iff, decide_eq_true_eq, beq_iff_eq, e3]; split <;> omega

theorem step_neg {W H l s : Int} (hc : isCellB W H l = true) (s0 : 0 ≤ s) (s3 : s ≤ 3) (h : stepF W H l s < 0) : stepF W H l s = -1 := by
  obtain ⟨e0, e1, e2, e3, _⟩ := step_lin hc
  obtain ⟨p1, p2, p3, p4, p5⟩ := place_bd hc
  obtain ⟨m, c0, c1⟩ := (isCellB_iff _ _ _).1 hc
  obtain ⟨m1, m2, m3, m4⟩ := (mayB_iff _ _).1 m
  have q0 := Int.mul_nonneg p3 (show 0 ≤ W by omega)
  have q1 : 1 ≤ l / W ↔ W ≤ l := by rw [Int.le_ediv_iff_mul_le (by omega), Int.one_mul]
  rcases (by omega : s = 0 ∨ s = 1 ∨ s = 2 ∨ s = 3) with rfl | rfl | rfl | rfl
  · rw [e0] at h ⊢; split at h <;> split <;> omega
  · rw [e1] at h ⊢; split at h <;> split <;> omega
  · rw [e2] at h ⊢; split at h <;> split <;> omega
  · rw [e3] at h ⊢; split at h <;> split <;> omega
theorem wrapI {x : Int} (h : -9223372036854775808 ≤ x ∧ x ≤ 9223372036854775807) : IntKind.i64.wrap x = x := by rw [IntKind.wrap_i64]; omega
theorem row4 (w : World) (x y z v : Value) (t : TypeId) (f : Nat → Value) (h0 : f 0 = x) (h1 : f 1 = y) (h2 : f 2 = z) (h3 : f 3 = v) : (w.alloc (.cells #[x, y, z, v] t)).rowIs w.heap.size t 4 f :=
  World.rowIs_alloc w #[x, y, z, v] t f (fun i hi => by
    have hi : i < 4 := hi
    rcases (by omega : i = 0 ∨ i = 1 ∨ i = 2 ∨ i = 3) with rfl | rfl | rfl | rfl
    · rw [h0]; rfl
    · rw [h1]; rfl
    · rw [h2]; rfl
    · rw [h3]; rfl)
theorem cell_gr {u u' : World} {b o : Nat} {v : Value} (h : u.cell? ⟨b, o, none⟩ = some v) (g : Gr u u') : u'.cell? ⟨b, o, none⟩ = some v :=
  (g.cell b o (World.block_lt_of_cell? u ⟨b, o, none⟩ h)).trans h

end Go.Proofs.Ytigoehoaplndiaa
