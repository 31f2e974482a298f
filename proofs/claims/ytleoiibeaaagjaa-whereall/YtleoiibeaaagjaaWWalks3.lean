/- What Step, Side, Back of package where answer: the plain functions of WMath; nothing is written. -/
import Derived.Test.YtleoiibeaaagjaaWWalks2
namespace Go.Proofs.Ytleoiibeaaagjaa
open Go.RowKit

set_option maxHeartbeats 400000 in
theorem step_0 (a b c : Int) (w : World) (hc : isCellB a b c = true) :
    Calls Try.prog 19 #[.int .i64 a, .int .i64 b, .int .i64 c, .int .i64 0] w fun e w' => e = .returned (.int .i64 (stepF a b c 0)) ∧ Dr w w' := by
  have pb := place_bd hc
  obtain ⟨m, _, _⟩ := (isCellB_iff a b c).1 hc
  obtain ⟨m1, m2, m3, m4⟩ := (mayB_iff a b).1 m
  obtain ⟨p1, p2, p3, p4, p5⟩ := pb
  clear p5
  have H : Hid (cellF a b (c % a) (c / a - 1) = stepF a b c 0) := hide (by unfold stepF; rw [if_pos hc]; simp)
  go_enter Try.func19, Try.ntmps19
  go_wp2_with (first | (go_at_call 33; refine (isCell_any _ _ _ _).mono ?_; rintro e w' ⟨rfl, hd⟩) | (go_at_call 13; refine (place_yes _ _ _ _ hc).mono ?_; rintro e w' ⟨rfl, hd⟩) | (go_at_call 18; refine (cell_any _ _ _ _ _).mono ?_; rintro e w' ⟨rfl, hd⟩))
  go_ret
  exact ⟨ret_int (by first | exact H.out | (rw [← H.out]; congr 1; omega)), by repeat (first | exact Dr.refl _ | assumption | refine Dr.add ?_ | refine Dr.trans ?_ (by assumption))⟩

set_option maxHeartbeats 400000 in
theorem step_1 (a b c : Int) (w : World) (hc : isCellB a b c = true) :
    Calls Try.prog 19 #[.int .i64 a, .int .i64 b, .int .i64 c, .int .i64 1] w fun e w' => e = .returned (.int .i64 (stepF a b c 1)) ∧ Dr w w' := by
  have pb := place_bd hc
  obtain ⟨m, _, _⟩ := (isCellB_iff a b c).1 hc
  obtain ⟨m1, m2, m3, m4⟩ := (mayB_iff a b).1 m
  obtain ⟨p1, p2, p3, p4, p5⟩ := pb
  clear p5
  have H : Hid (cellF a b (c % a + 1) (c / a) = stepF a b c 1) := hide (by unfold stepF; rw [if_pos hc]; simp)
  go_enter Try.func19, Try.ntmps19
  go_wp2_with (first | (go_at_call 33; refine (isCell_any _ _ _ _).mono ?_; rintro e w' ⟨rfl, hd⟩) | (go_at_call 13; refine (place_yes _ _ _ _ hc).mono ?_; rintro e w' ⟨rfl, hd⟩) | (go_at_call 18; refine (cell_any _ _ _ _ _).mono ?_; rintro e w' ⟨rfl, hd⟩))
  go_ret
  exact ⟨ret_int (by first | exact H.out | (rw [← H.out]; congr 1; omega)), by repeat (first | exact Dr.refl _ | assumption | refine Dr.add ?_ | refine Dr.trans ?_ (by assumption))⟩

set_option maxHeartbeats 400000 in
theorem step_2 (a b c : Int) (w : World) (hc : isCellB a b c = true) :
    Calls Try.prog 19 #[.int .i64 a, .int .i64 b, .int .i64 c, .int .i64 2] w fun e w' => e = .returned (.int .i64 (stepF a b c 2)) ∧ Dr w w' := by
  have pb := place_bd hc
  obtain ⟨m, _, _⟩ := (isCellB_iff a b c).1 hc
  obtain ⟨m1, m2, m3, m4⟩ := (mayB_iff a b).1 m
  obtain ⟨p1, p2, p3, p4, p5⟩ := pb
  clear p5
  have H : Hid (cellF a b (c % a) (c / a + 1) = stepF a b c 2) := hide (by unfold stepF; rw [if_pos hc]; simp)
  go_enter Try.func19, Try.ntmps19
  go_wp2_with (first | (go_at_call 33; refine (isCell_any _ _ _ _).mono ?_; rintro e w' ⟨rfl, hd⟩) | (go_at_call 13; refine (place_yes _ _ _ _ hc).mono ?_; rintro e w' ⟨rfl, hd⟩) | (go_at_call 18; refine (cell_any _ _ _ _ _).mono ?_; rintro e w' ⟨rfl, hd⟩))
  go_ret
  exact ⟨ret_int (by first | exact H.out | (rw [← H.out]; congr 1; omega)), by repeat (first | exact Dr.refl _ | assumption | refine Dr.add ?_ | refine Dr.trans ?_ (by assumption))⟩

set_option maxHeartbeats 400000 in
theorem step_3 (a b c : Int) (w : World) (hc : isCellB a b c = true) :
    Calls Try.prog 19 #[.int .i64 a, .int .i64 b, .int .i64 c, .int .i64 3] w fun e w' => e = .returned (.int .i64 (stepF a b c 3)) ∧ Dr w w' := by
  have pb := place_bd hc
  obtain ⟨m, _, _⟩ := (isCellB_iff a b c).1 hc
  obtain ⟨m1, m2, m3, m4⟩ := (mayB_iff a b).1 m
  obtain ⟨p1, p2, p3, p4, p5⟩ := pb
  clear p5
  have H : Hid (cellF a b (c % a - 1) (c / a) = stepF a b c 3) := hide (by unfold stepF; rw [if_pos hc]; simp)
  go_enter Try.func19, Try.ntmps19
  go_wp2_with (first | (go_at_call 33; refine (isCell_any _ _ _ _).mono ?_; rintro e w' ⟨rfl, hd⟩) | (go_at_call 13; refine (place_yes _ _ _ _ hc).mono ?_; rintro e w' ⟨rfl, hd⟩) | (go_at_call 18; refine (cell_any _ _ _ _ _).mono ?_; rintro e w' ⟨rfl, hd⟩))
  go_ret
  exact ⟨ret_int (by first | exact H.out | (rw [← H.out]; congr 1; omega)), by repeat (first | exact Dr.refl _ | assumption | refine Dr.add ?_ | refine Dr.trans ?_ (by assumption))⟩

set_option maxHeartbeats 400000 in
theorem step_4 (a b c : Int) (w : World) (hc : isCellB a b c = true) :
    Calls Try.prog 19 #[.int .i64 a, .int .i64 b, .int .i64 c, .int .i64 4] w fun e w' => e = .returned (.int .i64 (stepF a b c 4)) ∧ Dr w w' := by
  have pb := place_bd hc
  obtain ⟨m, _, _⟩ := (isCellB_iff a b c).1 hc
  obtain ⟨m1, m2, m3, m4⟩ := (mayB_iff a b).1 m
  obtain ⟨p1, p2, p3, p4, p5⟩ := pb
  clear p5
  have H : Hid (cellF a b (c % a) (c / a) = stepF a b c 4) := hide (by unfold stepF; rw [if_pos hc]; simp)
  go_enter Try.func19, Try.ntmps19
  go_wp2_with (first | (go_at_call 33; refine (isCell_any _ _ _ _).mono ?_; rintro e w' ⟨rfl, hd⟩) | (go_at_call 13; refine (place_yes _ _ _ _ hc).mono ?_; rintro e w' ⟨rfl, hd⟩) | (go_at_call 18; refine (cell_any _ _ _ _ _).mono ?_; rintro e w' ⟨rfl, hd⟩))
  go_ret
  exact ⟨ret_int (by first | exact H.out | (rw [← H.out]; congr 1; omega)), by repeat (first | exact Dr.refl _ | assumption | refine Dr.add ?_ | refine Dr.trans ?_ (by assumption))⟩

set_option maxHeartbeats 400000 in
theorem step_other (a b c s : Int) (w : World) (hc : isCellB a b c = true) (hs : s < 0 ∨ 4 < s) :
    Calls Try.prog 19 #[.int .i64 a, .int .i64 b, .int .i64 c, .int .i64 s] w fun e w' => e = .returned (.int .i64 (stepF a b c s)) ∧ Dr w w' := by
  have e0 : (s == 0) = false := by simp; omega
  have e1 : (s == 1) = false := by simp; omega
  have e2 : (s == 2) = false := by simp; omega
  have e3 : (s == 3) = false := by simp; omega
  have e4 : (s == 4) = false := by simp; omega
  have H : Hid (-1 = stepF a b c s) := hide (by unfold stepF; rw [if_pos hc, if_neg (by omega), if_neg (by omega), if_neg (by omega), if_neg (by omega), if_neg (by omega)])
  clear hs
  go_enter Try.func19, Try.ntmps19
  go_wp2_with (first | (go_at_call 33; refine (isCell_any _ _ _ _).mono ?_; rintro e w' ⟨rfl, hd⟩) | (go_at_call 13; refine (place_yes _ _ _ _ hc).mono ?_; rintro e w' ⟨rfl, hd⟩))
  go_ret
  exact ⟨ret_int H.out, by repeat (first | exact Dr.refl _ | assumption | refine Dr.add ?_ | refine Dr.trans ?_ (by assumption))⟩

set_option maxHeartbeats 400000 in
theorem step_no (a b c s : Int) (w : World) (hc : isCellB a b c = false) :
    Calls Try.prog 19 #[.int .i64 a, .int .i64 b, .int .i64 c, .int .i64 s] w fun e w' => e = .returned (.int .i64 (stepF a b c s)) ∧ Dr w w' := by
  have H : Hid (-1 = stepF a b c s) := hide (by unfold stepF; rw [if_neg (by simp [hc])])
  go_enter Try.func19, Try.ntmps19
  go_wp2_with (go_at_call 33; refine (isCell_any _ _ _ _).mono ?_; rintro e w' ⟨rfl, hd⟩)
  go_ret
  exact ⟨ret_int H.out, by repeat (first | exact Dr.refl _ | assumption | refine Dr.add ?_ | refine Dr.trans ?_ (by assumption))⟩

theorem step_any (a b c s : Int) (w : World) :
    Calls Try.prog 19 #[.int .i64 a, .int .i64 b, .int .i64 c, .int .i64 s] w fun e w' => e = .returned (.int .i64 (stepF a b c s)) ∧ Dr w w' := by
  cases hc : isCellB a b c
  · exact step_no a b c s w hc
  · by_cases h : s < 0 ∨ 4 < s
    · exact step_other a b c s w hc h
    · rcases (by omega : s = 0 ∨ s = 1 ∨ s = 2 ∨ s = 3 ∨ s = 4) with rfl | rfl | rfl | rfl | rfl
      · exact step_0 a b c w hc
      · exact step_1 a b c w hc
      · exact step_2 a b c w hc
      · exact step_3 a b c w hc
      · exact step_4 a b c w hc

set_option maxHeartbeats 400000 in
theorem side_any (a b c d : Int) (w : World) :
    Calls Try.prog 21 #[.int .i64 a, .int .i64 b, .int .i64 c, .int .i64 d] w fun e w' => e = .returned (.int .i64 (sideF a b c d)) ∧ Dr w w' := by
  cases hc : isCellB a b d
  · have H : Hid (5 = sideF a b c d) := hide (by unfold sideF; rw [if_neg (by simp [hc])])
    go_enter Try.func21, Try.ntmps21
    go_wp2_with (go_at_call 33; refine (isCell_any _ _ _ _).mono ?_; rintro e w' ⟨rfl, hd⟩)
    go_ret
    exact ⟨ret_int H.out, by repeat (first | exact Dr.refl _ | assumption | refine Dr.add ?_ | refine Dr.trans ?_ (by assumption))⟩
  · go_enter Try.func21, Try.ntmps21
    go_wp2_with (go_at_call 33; refine (isCell_any _ _ _ _).mono ?_; rintro e w' ⟨rfl, hd⟩)
    go_loopw [9] (fun i u => ∃ k : Nat, k ≤ 5 ∧ i = .int .i64 k ∧ (∀ j : Nat, j < k → stepF a b c j ≠ d) ∧ Dr w u) (fun i _ => 5 - (intOf i).toNat)
    case atStart => exact ⟨0, by omega, rfl, by omega, by repeat (first | exact Dr.refl _ | assumption | refine Dr.add ?_ | refine Dr.trans ?_ (by assumption))⟩
    case round =>
      obtain ⟨k, hk, rfl, hall, hD⟩ := hrel
      have HA : Hid (∀ j : Nat, j < k → stepF a b c j ≠ d) := hall
      clear hall
      by_cases h5 : k < 5
      · by_cases he : stepF a b c k = d
        · have H : Hid ((k : Int) = sideF a b c d) := hide (sideF_at hc k (by omega) HA.out he).symm
          have he' : (stepF a b c k == d) = true := by simp [he]
          clear he
          go_wp2_with (go_at_call 19; refine (step_any _ _ _ _ _).mono ?_; rintro e w' ⟨rfl, hd⟩)
          go_ret
          exact ⟨ret_int H.out, by repeat (first | exact Dr.refl _ | assumption | refine Dr.add ?_ | refine Dr.trans ?_ (by assumption))⟩
        · have he' : (stepF a b c k == d) = false := by simp [he]
          go_wp2_with (go_at_call 19; refine (step_any _ _ _ _ _).mono ?_; rintro e w' ⟨rfl, hd⟩)
          go_roundw
          case rel =>
            refine ⟨k + 1, by omega, by go_num, ?_, by repeat (first | exact Dr.refl _ | assumption | refine Dr.add ?_ | refine Dr.trans ?_ (by assumption))⟩
            intro j hj
            by_cases e : j = k
            · subst e; exact he
            · exact HA.out j (by omega)
          case measure => simp [intOf]; omega
      · have hk5 : k = 5 := by omega
        subst hk5
        have H : Hid (5 = sideF a b c d) := hide (sideF_none hc HA.out).symm
        go_wp2
        go_ret
        exact ⟨ret_int H.out, by repeat (first | exact Dr.refl _ | assumption | refine Dr.add ?_ | refine Dr.trans ?_ (by assumption))⟩

set_option maxHeartbeats 400000 in
theorem back_any (s : Int) (w : World) (h0 : 0 ≤ s) (h5 : s ≤ 5) :
    Calls Try.prog 32 #[.int .i64 s] w fun e w' => e = .returned (.int .i64 (backF s)) ∧ Dr w w' := by
  rcases (by omega : s = 0 ∨ s = 1 ∨ s = 2 ∨ s = 3 ∨ s = 4 ∨ s = 5) with rfl | rfl | rfl | rfl | rfl | rfl
  all_goals
    go_enter Try.func32, Try.ntmps32
    go_wp2
    go_ret
    exact ⟨rfl, Dr.refl _⟩

end Go.Proofs.Ytleoiibeaaagjaa
