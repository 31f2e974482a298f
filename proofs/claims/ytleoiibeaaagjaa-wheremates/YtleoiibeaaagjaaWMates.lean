/- WhereMates' walk: it answers true at every input. -/
import Derived.Test.YtleoiibeaaagjaaWLaws
namespace Go.Proofs.Ytleoiibeaaagjaa
open Go.RowKit

theorem back_bd {s : Int} (a : 0 ≤ s) (b : s ≤ 3) : 0 ≤ backF s ∧ backF s ≤ 3 ∧ backF (backF s) = s ∧ backF s ≠ s := by
  rcases (by omega : s = 0 ∨ s = 1 ∨ s = 2 ∨ s = 3) with rfl | rfl | rfl | rfl <;> decide

set_option maxHeartbeats 1000000 in
set_option maxRecDepth 100000 in
theorem whereMates_any (a b c s0 t0 : Int) (w : World) :
    Calls Try.prog 6 #[.int .i64 a, .int .i64 b, .int .i64 c, .int .i64 s0, .int .i64 t0] w fun e w' => e = .returned (.bool true) ∧ Dr w w' := by
  go_enter Try.func6, Try.ntmps6
  go_wp2_with fail
  refine (near_any a b _).mono ?_
  rintro e w1 ⟨⟨x, y, rfl, hm⟩, hd1⟩
  have hp := may_mul hm
  obtain ⟨m1, m2, m3, m4⟩ := (mayB_iff x y).1 hm
  obtain ⟨k, hk⟩ : ∃ k, k = withinF c 0 (x * y - 1) := ⟨_, rfl⟩
  have kb := within_bd c 0 (x * y - 1) (by omega)
  rw [← hk] at kb
  have HK := hide hk
  clear hk
  obtain ⟨s, hs⟩ : ∃ s, s = withinF s0 0 3 := ⟨_, rfl⟩
  have sb := within_bd s0 0 3 (by omega)
  rw [← hs] at sb
  have HS := hide hs
  clear hs
  obtain ⟨t, ht⟩ : ∃ t, t = withinF t0 0 3 := ⟨_, rfl⟩
  have tb := within_bd t0 0 3 (by omega)
  rw [← ht] at tb
  have HT := hide ht
  clear ht
  have hc : isCellB x y k = true := (isCellB_iff _ _ _).2 ⟨hm, by omega, by omega⟩
  obtain ⟨p1, p2, p3, p4, p5⟩ := place_bd hc
  clear p5
  go_wp2_with fail
  refine (within_any _ _ _ _ (by omega) (by omega) (by omega)).mono ?_
  rintro e w2 ⟨rfl, hd2⟩
  rw [← HK.out]
  go_wp2_with fail
  refine (within_any _ _ _ _ (by omega) (by omega) (by omega)).mono ?_
  rintro e w3 ⟨rfl, hd3⟩
  rw [← HS.out]
  go_wp2_with fail
  refine (within_any _ _ _ _ (by omega) (by omega) (by omega)).mono ?_
  rintro e w4 ⟨rfl, hd4⟩
  rw [← HT.out]
  have f4 : stepF x y k 4 = k := (step_lin hc).2.2.2.2
  have g4 : sideF x y k k = 4 := by have := sideF_step hc (s := 4) (by omega) (by omega) (by omega); rw [f4] at this; exact this
  have b4 : backF 4 = 4 := by decide
  have b5 : backF 5 = 5 := by decide
  obtain ⟨q1, q2, q3, q4⟩ := back_bd sb.1 sb.2
  have q5 : (backF s == s) = false := by simp [q4]
  by_cases hn : stepF x y k s < 0
  · obtain ⟨en, ed⟩ := step_edge hc sb.1 sb.2 hn
    clear hn
    rcases ed with ⟨rfl, ed⟩ | ⟨rfl, ed⟩ | ⟨rfl, ed⟩ | ⟨rfl, ed⟩
    all_goals
      go_wp2_with (first | (go_at_call 32; refine (back_any _ _ (by omega) (by omega)).mono ?_; rintro e w' ⟨rfl, hd⟩) | (go_at_call 19; refine (step_any _ _ _ _ _).mono ?_; rintro e w' ⟨rfl, hd⟩) | (go_at_call 21; refine (side_any _ _ _ _ _).mono ?_; rintro e w' ⟨rfl, hd⟩) | (go_at_call 13; refine (place_yes _ _ _ _ hc).mono ?_; rintro e w' ⟨rfl, hd⟩) | (go_at_call 16; refine (told_any _).mono ?_; rintro e w' ⟨rfl, hd⟩))
      go_ret
      exact ⟨rfl, by repeat (first | exact Dr.refl _ | assumption | refine Dr.add ?_ | refine Dr.trans ?_ (by assumption))⟩
  · have kn := step_cell hc sb.1 (by omega) (by omega)
    have n1 := step_ne hc (s := s) (t := 4) sb.1 (by omega) (by omega) (by omega) (by omega) (by omega)
    rw [f4] at n1
    have n1' : ¬ stepF x y k s = k := fun e => n1 e.symm
    have n2 := step_back hc sb.1 sb.2 (by omega)
    have n3 := sideF_step hc sb.1 (by omega) (by omega)
    clear n1
    by_cases hst : s = t
    · have e1 : (s == t) = true := by simp [hst]
      clear hst
      go_wp2_with (first | (go_at_call 32; refine (back_any _ _ (by omega) (by omega)).mono ?_; rintro e w' ⟨rfl, hd⟩) | (go_at_call 19; refine (step_any _ _ _ _ _).mono ?_; rintro e w' ⟨rfl, hd⟩) | (go_at_call 21; refine (side_any _ _ _ _ _).mono ?_; rintro e w' ⟨rfl, hd⟩) | (go_at_call 13; refine (place_yes _ _ _ _ hc).mono ?_; rintro e w' ⟨rfl, hd⟩) | (go_at_call 16; refine (told_any _).mono ?_; rintro e w' ⟨rfl, hd⟩))
      go_ret
      exact ⟨ret_bool (by simp [n1']), by repeat (first | exact Dr.refl _ | assumption | refine Dr.add ?_ | refine Dr.trans ?_ (by assumption))⟩
    · have e1 : (s == t) = false := by simp [hst]
      have e2 := step_ne hc (s := s) (t := t) sb.1 (by omega) (by omega) (by omega) hst (by omega)
      clear hst
      go_wp2_with (first | (go_at_call 32; refine (back_any _ _ (by omega) (by omega)).mono ?_; rintro e w' ⟨rfl, hd⟩) | (go_at_call 19; refine (step_any _ _ _ _ _).mono ?_; rintro e w' ⟨rfl, hd⟩) | (go_at_call 21; refine (side_any _ _ _ _ _).mono ?_; rintro e w' ⟨rfl, hd⟩) | (go_at_call 13; refine (place_yes _ _ _ _ hc).mono ?_; rintro e w' ⟨rfl, hd⟩) | (go_at_call 16; refine (told_any _).mono ?_; rintro e w' ⟨rfl, hd⟩))
      go_ret
      exact ⟨ret_bool (by simp [n1', e2]), by repeat (first | exact Dr.refl _ | assumption | refine Dr.add ?_ | refine Dr.trans ?_ (by assumption))⟩

end Go.Proofs.Ytleoiibeaaagjaa
