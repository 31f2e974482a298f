/- The statements' 'near': a tile of numbers, or a copy; the document's Ints of two lists that are alike. -/
import Derived.Test.YtigoehoaplndiaaTMates
namespace Go.Proofs.Ytigoehoaplndiaa
open Go.RowKit

theorem tri_at (w : World) (W H : Int) (v : Value) : (w.alloc (.cells #[.int .i64 W, .int .i64 H, v] 24)).cell? ⟨w.heap.size, 0, none⟩ = some (.int .i64 W) ∧ (w.alloc (.cells #[.int .i64 W, .int .i64 H, v] 24)).cell? ⟨w.heap.size, 1, none⟩ = some (.int .i64 H) ∧ (w.alloc (.cells #[.int .i64 W, .int .i64 H, v] 24)).cell? ⟨w.heap.size, 2, none⟩ = some v :=
  ⟨(tri_alloc w _ _ _ _).cell (i := 0) (by omega), (tri_alloc w _ _ _ _).cell (i := 1) (by omega), (tri_alloc w _ _ _ _).cell (i := 2) (by omega)⟩

set_option maxHeartbeats 1000000 in
theorem ints_same (a b : Option Addr) (n c d : Nat) (f : Nat → Int) (w : World) (h : SlI w a n f) (k : SlI w b n f) (hn : n ≤ 1000000) :
    Calls Try.prog 17 #[.slice a n c, .slice b n d] w fun e w' => e = .returned (.bool true) ∧ Dr w w' := by
  go_enter Try.func17, Try.ntmps17
  go_wp2
  go_loopw [5] (fun i u => ∃ j : Nat, j ≤ n ∧ i = .int .i64 j ∧ Dr w u) (fun i _ => n - (intOf i).toNat)
  case atStart => exact ⟨0, Nat.zero_le _, rfl, Dr.refl _⟩
  case round =>
    obtain ⟨j, hj, rfl, q, rfl⟩ := hrel
    by_cases hlt : j < n
    · obtain ⟨b1, o1, rfl, _, hc1⟩ := h.at (by omega)
      obtain ⟨b2, o2, rfl, _, hc2⟩ := k.at (by omega)
      have e1 := hc1 j hlt
      have e2 := hc2 j hlt
      have j0 : (0 : Int) ≤ (j : Int) := by omega
      have j1 : (j : Int) < (n : Int) := by omega
      clear hc1 hc2
      generalize f j = z at *
      go_wp2_with fail
      go_quiet (fail)
      go_wp2
      go_roundw
      case rel => exact ⟨j + 1, by omega, by go_num, ⟨_, rfl⟩⟩
      case measure => simp [intOf]; omega
    · go_wp2
      go_ret
      exact ⟨rfl, ⟨_, rfl⟩⟩

end Go.Proofs.Ytigoehoaplndiaa
