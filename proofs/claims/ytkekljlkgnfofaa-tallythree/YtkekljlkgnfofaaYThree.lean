/- TallyThree's walk: three counts are added in whatever order. Conditions: the counts are numbers of 64 bits. -/
import Derived.Test.YtkekljlkgnfofaaYAdd
namespace Go.Proofs.Ytkekljlkgnfofaa
open Go.RowKit

theorem add3 {a b c : Int} (ha : U a) (hb : U b) (hc : U c) :
    addF a (addF b c) = addF (addF a b) c ∧ addF (addF c a) b = addF (addF a b) c ∧ a ≤ addF (addF a b) c ∧ b ≤ addF (addF a b) c ∧ c ≤ addF (addF a b) c ∧ addF a 0 = a := by
  unfold U at *
  unfold addF
  repeat' split
  all_goals omega

set_option maxHeartbeats 2000000 in
theorem tallyThree_any (a b c : Int) (w : World) (ha : U a) (hb : U b) (hc : U c) :
    Calls Try.prog 7 #[.int .u64 a, .int .u64 b, .int .u64 c] w fun e w' => e = .returned (.bool true) ∧ Gr w w' := by
  obtain ⟨e1, e2, g1, g2, g3, e3⟩ := add3 ha hb hc
  have u1 := addF_u ha hb
  have u2 := addF_u hb hc
  have u3 := addF_u hc ha
  have u0 : U 0 := by unfold U; omega
  have A1 := fun w => add_any a b w ha hb
  have A2 := fun w => add_any (addF a b) c w u1 hc
  have A3 := fun w => add_any b c w hb hc
  have A4 := fun w => add_any a (addF b c) w ha u2
  have A5 := fun w => add_any c a w hc ha
  have A6 := fun w => add_any (addF c a) b w u3 hb
  have A7 := fun w => add_any a 0 w ha u0
  rw [e1] at A4
  rw [e2] at A6
  rw [e3] at A7
  clear e1 e2 e3
  generalize addF (addF a b) c = x at *
  generalize addF a b = p at *
  generalize addF b c = q at *
  generalize addF c a = r at *
  clear ha hb hc u1 u2 u3 u0
  have H1 := hide A1
  have H2 := hide A2
  have H3 := hide A3
  have H4 := hide A4
  have H5 := hide A5
  have H6 := hide A6
  have H7 := hide A7
  clear A1 A2 A3 A4 A5 A6 A7
  go_enter Try.func7, Try.ntmps7
  go_wp2_with (first | (go_at_call 8; (first | (with_reducible refine (H1.out _).mono ?_) | (with_reducible refine (H2.out _).mono ?_) | (with_reducible refine (H3.out _).mono ?_) | (with_reducible refine (H4.out _).mono ?_) | (with_reducible refine (H5.out _).mono ?_) | (with_reducible refine (H6.out _).mono ?_) | (with_reducible refine (H7.out _).mono ?_)); rintro e w' ⟨rfl, rfl⟩) | (go_at_call 9; refine (told_any _).mono ?_; rintro e w' ⟨rfl, rfl⟩))
  go_ret
  exact ⟨rfl, Gr.refl _⟩

end Go.Proofs.Ytkekljlkgnfofaa
