/- What tally.Below answers: whether no count of the one is above that of the other. No condition. -/
import Derived.Test.YtkekljlkgnfofaaYCounts
namespace Go.Proofs.Ytkekljlkgnfofaa
open Go.RowKit

theorem cell_gr6 {u u' : World} {b o : Nat} {v : Value} (h : u.cell? ⟨b, o, none⟩ = some v) (g : Gr u u') : u'.cell? ⟨b, o, none⟩ = some v :=
  (g.cell b o (World.block_lt_of_cell? u ⟨b, o, none⟩ h)).trans h
def belowB (f g : Nat → Int) : Bool := decide (f 0 ≤ g 0 ∧ f 1 ≤ g 1 ∧ f 2 ≤ g 2 ∧ f 3 ≤ g 3 ∧ f 4 ≤ g 4 ∧ f 5 ≤ g 5)
theorem belowB_iff (f g : Nat → Int) : belowB f g = true ↔ ∀ i, i < 6 → f i ≤ g i := by
  simp only [belowB, decide_eq_true_eq]
  constructor
  · rintro ⟨h0, h1, h2, h3, h4, h5⟩ i hi
    rcases (by omega : i = 0 ∨ i = 1 ∨ i = 2 ∨ i = 3 ∨ i = 4 ∨ i = 5) with rfl | rfl | rfl | rfl | rfl | rfl <;> assumption
  · intro h
    exact ⟨h 0 (by omega), h 1 (by omega), h 2 (by omega), h 3 (by omega), h 4 (by omega), h 5 (by omega)⟩
theorem belowB_false (f g : Nat → Int) (k : Nat) (hk : k < 6) (h : g k < f k) : belowB f g = false := by
  cases e : belowB f g
  · rfl
  · have := (belowB_iff f g).1 e k hk
    omega

set_option maxHeartbeats 2000000 in
theorem below_any (f g : Nat → Int) (w : World) :
    Calls Try.prog 11 #[.agg #[.int .u64 (f 0), .int .u64 (f 1), .int .u64 (f 2), .int .u64 (f 3), .int .u64 (f 4), .int .u64 (f 5)], .agg #[.int .u64 (g 0), .int .u64 (g 1), .int .u64 (g 2), .int .u64 (g 3), .int .u64 (g 4), .int .u64 (g 5)]] w fun e w' => e = .returned (.bool (belowB f g)) ∧ Gr w w' := by
  have i0 : ∀ w, (Instr.index 33 (.agg #[.int .u64 (f 0), .int .u64 (f 1), .int .u64 (f 2), .int .u64 (f 3), .int .u64 (f 4), .int .u64 (f 5)]) (.int .i64 0)).run Try.prog w = .ok (.int .u64 (f 0)) w := fun _ => by kernel_rfl
  have i1 : ∀ w, (Instr.index 33 (.agg #[.int .u64 (f 0), .int .u64 (f 1), .int .u64 (f 2), .int .u64 (f 3), .int .u64 (f 4), .int .u64 (f 5)]) (.int .i64 1)).run Try.prog w = .ok (.int .u64 (f 1)) w := fun _ => by kernel_rfl
  have i2 : ∀ w, (Instr.index 33 (.agg #[.int .u64 (f 0), .int .u64 (f 1), .int .u64 (f 2), .int .u64 (f 3), .int .u64 (f 4), .int .u64 (f 5)]) (.int .i64 2)).run Try.prog w = .ok (.int .u64 (f 2)) w := fun _ => by kernel_rfl
  have i3 : ∀ w, (Instr.index 33 (.agg #[.int .u64 (f 0), .int .u64 (f 1), .int .u64 (f 2), .int .u64 (f 3), .int .u64 (f 4), .int .u64 (f 5)]) (.int .i64 3)).run Try.prog w = .ok (.int .u64 (f 3)) w := fun _ => by kernel_rfl
  have i4 : ∀ w, (Instr.index 33 (.agg #[.int .u64 (f 0), .int .u64 (f 1), .int .u64 (f 2), .int .u64 (f 3), .int .u64 (f 4), .int .u64 (f 5)]) (.int .i64 4)).run Try.prog w = .ok (.int .u64 (f 4)) w := fun _ => by kernel_rfl
  have i5 : ∀ w, (Instr.index 33 (.agg #[.int .u64 (f 0), .int .u64 (f 1), .int .u64 (f 2), .int .u64 (f 3), .int .u64 (f 4), .int .u64 (f 5)]) (.int .i64 5)).run Try.prog w = .ok (.int .u64 (f 5)) w := fun _ => by kernel_rfl
  go_enter Try.func11, Try.ntmps11
  go_wp2_with fail
  refine (counts_any g _).mono ?_
  rintro e w1 ⟨rfl, hg1⟩
  have hw1 : Gr w w1 := (((Gr.refl w).alloc _).alloc _).trans hg1
  have hc := (Gr.old hg1).1
  have hs := hg1.size
  simp only [World.size_alloc] at hs
  have hz : w.heap.size < w1.heap.size := by omega
  have c : w1.cell? ⟨w.heap.size, 0, none⟩ = some (.int .u64 (f 0)) ∧ w1.cell? ⟨w.heap.size, 1, none⟩ = some (.int .u64 (f 1)) ∧ w1.cell? ⟨w.heap.size, 2, none⟩ = some (.int .u64 (f 2)) ∧ w1.cell? ⟨w.heap.size, 3, none⟩ = some (.int .u64 (f 3)) ∧ w1.cell? ⟨w.heap.size, 4, none⟩ = some (.int .u64 (f 4)) ∧ w1.cell? ⟨w.heap.size, 5, none⟩ = some (.int .u64 (f 5)) := by
    refine ⟨?_, ?_, ?_, ?_, ?_, ?_⟩ <;> refine cell_gr6 ?_ hg1 <;> simp [go_sem]
  obtain ⟨c0, c1, c2, c3, c4, c5⟩ := c
  clear hc hg1
  go_wp2_with fail
  refine (counts_any f _).mono ?_
  rintro e w2 ⟨rfl, hg2⟩
  have hw2 : Gr w w2 := (hw1.alloc _).trans hg2
  have d : w2.cell? ⟨w1.heap.size, 0, none⟩ = some (.int .u64 (g 0)) ∧ w2.cell? ⟨w1.heap.size, 1, none⟩ = some (.int .u64 (g 1)) ∧ w2.cell? ⟨w1.heap.size, 2, none⟩ = some (.int .u64 (g 2)) ∧ w2.cell? ⟨w1.heap.size, 3, none⟩ = some (.int .u64 (g 3)) ∧ w2.cell? ⟨w1.heap.size, 4, none⟩ = some (.int .u64 (g 4)) ∧ w2.cell? ⟨w1.heap.size, 5, none⟩ = some (.int .u64 (g 5)) := by
    refine ⟨?_, ?_, ?_, ?_, ?_, ?_⟩ <;> refine cell_gr6 ?_ hg2 <;> simp [go_sem]
  obtain ⟨d0, d1, d2, d3, d4, d5⟩ := d
  generalize w1.heap.size = B at *
  clear hg2 c0 c1 c2 c3 c4 c5 hs hz hw1
  go_wp2_with fail
  go_loopw [12] (fun i u => ∃ k : Int, 0 ≤ k ∧ k ≤ 6 ∧ i = .int .i64 k ∧ (∀ j : Nat, (j : Int) < k → f j ≤ g j) ∧ u = w2) (fun i _ => 6 - (intOf i).toNat)
  case atStart => exact ⟨0, by omega, by omega, rfl, fun j hj => by omega, rfl⟩
  case round =>
    obtain ⟨k, hk0, hk, rfl, hlt, rfl⟩ := hrel
    by_cases h6 : k = 6
    · subst h6
      have H : Hid (belowB f g = true) := hide ((belowB_iff f g).2 (fun i hi => hlt i (by omega)))
      clear hlt
      go_wp2
      go_ret
      exact ⟨ret_bool H.out.symm, hw2⟩
    · by_cases hle : f k.toNat ≤ g k.toNat
      · have H : Hid (∀ j : Nat, (j : Int) < k + 1 → f j ≤ g j) := hide (fun j hj => by
          by_cases e : (j : Int) = k
          · rw [show j = k.toNat by omega]; exact hle
          · exact hlt j (by omega))
        clear hlt
        rcases (by omega : k = 0 ∨ k = 1 ∨ k = 2 ∨ k = 3 ∨ k = 4 ∨ k = 5) with rfl | rfl | rfl | rfl | rfl | rfl
        all_goals
          simp only [show (0 : Int).toNat = 0 from rfl, show (1 : Int).toNat = 1 from rfl, show (2 : Int).toNat = 2 from rfl, show (3 : Int).toNat = 3 from rfl, show (4 : Int).toNat = 4 from rfl, show (5 : Int).toNat = 5 from rfl] at hle
          go_wp2
          go_roundw
          case rel => exact ⟨_, by omega, by omega, rfl, H.out, trivial⟩
          case measure => simp [intOf]
      · have H : Hid (belowB f g = false) := hide (belowB_false f g k.toNat (by omega) (by omega))
        clear hlt
        rcases (by omega : k = 0 ∨ k = 1 ∨ k = 2 ∨ k = 3 ∨ k = 4 ∨ k = 5) with rfl | rfl | rfl | rfl | rfl | rfl
        all_goals
          simp only [show (0 : Int).toNat = 0 from rfl, show (1 : Int).toNat = 1 from rfl, show (2 : Int).toNat = 2 from rfl, show (3 : Int).toNat = 3 from rfl, show (4 : Int).toNat = 4 from rfl, show (5 : Int).toNat = 5 from rfl] at hle
          go_wp2
          go_ret
          exact ⟨ret_bool H.out.symm, hw2⟩

end Go.Proofs.Ytkekljlkgnfofaa
