/- What the document's own In, May, IsCell, Step, Side, Sectors answer: the same plain functions of WMath; nothing is written. -/
import Derived.Test.YtigoehoaplndiaaWWalks3
namespace Go.Proofs.Ytigoehoaplndiaa
open Go.RowKit

set_option maxHeartbeats 400000 in
theorem in_yes (n lo hi : Int) (w : World) (h1 : lo ≤ n) (h2 : n ≤ hi) :
    Calls Try.prog 30 #[.int .i64 n, .int .i64 lo, .int .i64 hi] w fun e w' => e = .returned (.bool true) ∧ Dr w w' := by
  go_enter Try.func30, Try.ntmps30
  go_wp2
  go_ret
  exact ⟨rfl, Dr.refl _⟩

set_option maxHeartbeats 400000 in
theorem in_no (n lo hi : Int) (w : World) (h : n < lo ∨ hi < n) :
    Calls Try.prog 30 #[.int .i64 n, .int .i64 lo, .int .i64 hi] w fun e w' => e = .returned (.bool false) ∧ Dr w w' := by
  by_cases h1 : lo ≤ n
  · have h2 : ¬ n ≤ hi := by omega
    clear h
    go_enter Try.func30, Try.ntmps30
    go_wp2
    go_ret
    exact ⟨rfl, Dr.refl _⟩
  · clear h
    go_enter Try.func30, Try.ntmps30
    go_wp2
    go_ret
    exact ⟨rfl, Dr.refl _⟩

set_option maxHeartbeats 400000 in
theorem rmay_any (a b : Int) (w : World) :
    Calls Try.prog 48 #[.int .i64 a, .int .i64 b] w fun e w' => e = .returned (.bool (mayB a b)) ∧ Dr w w' := by
  by_cases h1 : 1 ≤ a ∧ a ≤ 1024
  · obtain ⟨h1, h2⟩ := h1
    by_cases h3 : 1 ≤ b ∧ b ≤ 1024
    · obtain ⟨h3, h4⟩ := h3
      go_enter Try.func48, Try.ntmps48
      go_wp2_with (go_at_call 30; (first | refine (in_yes _ _ _ _ (by omega) (by omega)).mono ?_ | refine (in_no _ _ _ _ (by omega)).mono ?_); rintro e w' ⟨rfl, hd⟩)
      go_ret
      exact ⟨ret_bool (by simp [mayB, h1, h2, h3, h4]), by repeat (first | exact Dr.refl _ | assumption | refine Dr.add ?_ | refine Dr.trans ?_ (by assumption))⟩
    · have h5 : b < 1 ∨ 1024 < b := by omega
      go_enter Try.func48, Try.ntmps48
      go_wp2_with (go_at_call 30; (first | refine (in_yes _ _ _ _ (by omega) (by omega)).mono ?_ | refine (in_no _ _ _ _ (by omega)).mono ?_); rintro e w' ⟨rfl, hd⟩)
      go_ret
      exact ⟨ret_bool ((mayB_false _ _).2 (by omega)).symm, by repeat (first | exact Dr.refl _ | assumption | refine Dr.add ?_ | refine Dr.trans ?_ (by assumption))⟩
  · have h5 : a < 1 ∨ 1024 < a := by omega
    go_enter Try.func48, Try.ntmps48
    go_wp2_with (go_at_call 30; (first | refine (in_yes _ _ _ _ (by omega) (by omega)).mono ?_ | refine (in_no _ _ _ _ (by omega)).mono ?_); rintro e w' ⟨rfl, hd⟩)
    go_ret
    exact ⟨ret_bool ((mayB_false _ _).2 (by omega)).symm, by repeat (first | exact Dr.refl _ | assumption | refine Dr.add ?_ | refine Dr.trans ?_ (by assumption))⟩

set_option maxHeartbeats 400000 in
theorem risCell_any (a b c : Int) (w : World) :
    Calls Try.prog 31 #[.int .i64 a, .int .i64 b, .int .i64 c] w fun e w' => e = .returned (.bool (isCellB a b c)) ∧ Dr w w' := by
  cases hm : mayB a b
  · go_enter Try.func31, Try.ntmps31
    go_wp2_with (go_at_call 48; refine (rmay_any _ _ _).mono ?_; rintro e w' ⟨rfl, hd⟩)
    go_ret
    exact ⟨ret_bool (by simp [isCellB, hm]), by repeat (first | exact Dr.refl _ | assumption | refine Dr.add ?_ | refine Dr.trans ?_ (by assumption))⟩
  · have hp := may_mul hm
    by_cases h : 0 ≤ c ∧ c < a * b
    · obtain ⟨h1, h2⟩ := h
      go_enter Try.func31, Try.ntmps31
      go_wp2_with (first | (go_at_call 48; refine (rmay_any _ _ _).mono ?_; rintro e w' ⟨rfl, hd⟩) | (go_at_call 30; (first | refine (in_yes _ _ _ _ (by omega) (by omega)).mono ?_ | refine (in_no _ _ _ _ (by omega)).mono ?_); rintro e w' ⟨rfl, hd⟩))
      go_ret
      exact ⟨ret_bool (by simp [isCellB, hm, h1, h2]), by repeat (first | exact Dr.refl _ | assumption | refine Dr.add ?_ | refine Dr.trans ?_ (by assumption))⟩
    · have h5 : c < 0 ∨ a * b ≤ c := by omega
      go_enter Try.func31, Try.ntmps31
      go_wp2_with (first | (go_at_call 48; refine (rmay_any _ _ _).mono ?_; rintro e w' ⟨rfl, hd⟩) | (go_at_call 30; (first | refine (in_yes _ _ _ _ (by omega) (by omega)).mono ?_ | refine (in_no _ _ _ _ (by omega)).mono ?_); rintro e w' ⟨rfl, hd⟩))
      go_ret
      exact ⟨ret_bool (by simp [isCellB, hm]; omega), by repeat (first | exact Dr.refl _ | assumption | refine Dr.add ?_ | refine Dr.trans ?_ (by assumption))⟩

set_option maxHeartbeats 600000 in
theorem rstep_0 (a b c : Int) (w : World) (hc : isCellB a b c = true) :
    Calls Try.prog 21 #[.int .i64 a, .int .i64 b, .int .i64 c, .int .i64 0] w fun e w' => e = .returned (.int .i64 (stepF a b c 0)) ∧ Dr w w' := by
  obtain ⟨m, c0, c1⟩ := (isCellB_iff a b c).1 hc
  obtain ⟨m1, m2, m3, m4⟩ := (mayB_iff a b).1 m
  obtain ⟨p1, p2, p3, p4, p5⟩ := place_bd hc
  have hz : ¬ a = 0 := by omega
  have HP := hide p5
  have q0 : (c / a - 1) * a = c / a * a - a := by rw [Int.sub_mul, Int.one_mul]
  have q2 : (c / a + 1) * a = c / a * a + a := by rw [Int.add_mul, Int.one_mul]
  have H0 := hide q0
  have H2 := hide q2
  have hb := may_mul m
  have b0 := mul_bd (w := c / a) (h := a) (W := 1024) (H := 1024) (by omega) (by omega) (by omega) (by omega)
  have b1 : -1024 ≤ (c / a - 1) * a ∧ (c / a - 1) * a ≤ 1048576 := by omega
  have b2 : 0 ≤ (c / a + 1) * a ∧ (c / a + 1) * a ≤ 1049600 := by omega
  have HL := hide (step_lin hc)
  have c2 : c ≤ 1048576 := by omega
  clear p5 q0 q2 c1 hb
  by_cases hg : 1 ≤ c / a
  all_goals
    go_enter Try.func21, Try.ntmps21
    go_wp2_with (first | (go_at_call 31; refine (risCell_any _ _ _ _).mono ?_; rintro e w' ⟨rfl, hd⟩) | (go_at_call 30; (first | refine (in_yes _ _ _ _ (by omega) (by omega)).mono ?_ | refine (in_no _ _ _ _ (by omega)).mono ?_); rintro e w' ⟨rfl, hd⟩))
    go_quiet (fail)
    go_wp2_with (first | (go_at_call 30; (first | refine (in_yes _ _ _ _ (by omega) (by omega)).mono ?_ | refine (in_no _ _ _ _ (by omega)).mono ?_); rintro e w' ⟨rfl, hd⟩))
    go_ret
    exact ⟨ret_int (by have e1 := HL.out; have e2 := HP.out; have e3 := H0.out; have e4 := H2.out; omega), by repeat (first | exact Dr.refl _ | assumption | refine Dr.add ?_ | refine Dr.trans ?_ (by assumption))⟩

set_option maxHeartbeats 600000 in
theorem rstep_1 (a b c : Int) (w : World) (hc : isCellB a b c = true) :
    Calls Try.prog 21 #[.int .i64 a, .int .i64 b, .int .i64 c, .int .i64 1] w fun e w' => e = .returned (.int .i64 (stepF a b c 1)) ∧ Dr w w' := by
  obtain ⟨m, c0, c1⟩ := (isCellB_iff a b c).1 hc
  obtain ⟨m1, m2, m3, m4⟩ := (mayB_iff a b).1 m
  obtain ⟨p1, p2, p3, p4, p5⟩ := place_bd hc
  have hz : ¬ a = 0 := by omega
  have HP := hide p5
  have q0 : (c / a - 1) * a = c / a * a - a := by rw [Int.sub_mul, Int.one_mul]
  have q2 : (c / a + 1) * a = c / a * a + a := by rw [Int.add_mul, Int.one_mul]
  have H0 := hide q0
  have H2 := hide q2
  have hb := may_mul m
  have b0 := mul_bd (w := c / a) (h := a) (W := 1024) (H := 1024) (by omega) (by omega) (by omega) (by omega)
  have b1 : -1024 ≤ (c / a - 1) * a ∧ (c / a - 1) * a ≤ 1048576 := by omega
  have b2 : 0 ≤ (c / a + 1) * a ∧ (c / a + 1) * a ≤ 1049600 := by omega
  have HL := hide (step_lin hc)
  have c2 : c ≤ 1048576 := by omega
  clear p5 q0 q2 c1 hb
  by_cases hg : c % a + 1 < a
  all_goals
    go_enter Try.func21, Try.ntmps21
    go_wp2_with (first | (go_at_call 31; refine (risCell_any _ _ _ _).mono ?_; rintro e w' ⟨rfl, hd⟩) | (go_at_call 30; (first | refine (in_yes _ _ _ _ (by omega) (by omega)).mono ?_ | refine (in_no _ _ _ _ (by omega)).mono ?_); rintro e w' ⟨rfl, hd⟩))
    go_quiet (fail)
    go_wp2_with (first | (go_at_call 30; (first | refine (in_yes _ _ _ _ (by omega) (by omega)).mono ?_ | refine (in_no _ _ _ _ (by omega)).mono ?_); rintro e w' ⟨rfl, hd⟩))
    go_ret
    exact ⟨ret_int (by have e1 := HL.out; have e2 := HP.out; have e3 := H0.out; have e4 := H2.out; omega), by repeat (first | exact Dr.refl _ | assumption | refine Dr.add ?_ | refine Dr.trans ?_ (by assumption))⟩

set_option maxHeartbeats 600000 in
theorem rstep_2 (a b c : Int) (w : World) (hc : isCellB a b c = true) :
    Calls Try.prog 21 #[.int .i64 a, .int .i64 b, .int .i64 c, .int .i64 2] w fun e w' => e = .returned (.int .i64 (stepF a b c 2)) ∧ Dr w w' := by
  obtain ⟨m, c0, c1⟩ := (isCellB_iff a b c).1 hc
  obtain ⟨m1, m2, m3, m4⟩ := (mayB_iff a b).1 m
  obtain ⟨p1, p2, p3, p4, p5⟩ := place_bd hc
  have hz : ¬ a = 0 := by omega
  have HP := hide p5
  have q0 : (c / a - 1) * a = c / a * a - a := by rw [Int.sub_mul, Int.one_mul]
  have q2 : (c / a + 1) * a = c / a * a + a := by rw [Int.add_mul, Int.one_mul]
  have H0 := hide q0
  have H2 := hide q2
  have hb := may_mul m
  have b0 := mul_bd (w := c / a) (h := a) (W := 1024) (H := 1024) (by omega) (by omega) (by omega) (by omega)
  have b1 : -1024 ≤ (c / a - 1) * a ∧ (c / a - 1) * a ≤ 1048576 := by omega
  have b2 : 0 ≤ (c / a + 1) * a ∧ (c / a + 1) * a ≤ 1049600 := by omega
  have HL := hide (step_lin hc)
  have c2 : c ≤ 1048576 := by omega
  clear p5 q0 q2 c1 hb
  by_cases hg : c / a + 1 < b
  all_goals
    go_enter Try.func21, Try.ntmps21
    go_wp2_with (first | (go_at_call 31; refine (risCell_any _ _ _ _).mono ?_; rintro e w' ⟨rfl, hd⟩) | (go_at_call 30; (first | refine (in_yes _ _ _ _ (by omega) (by omega)).mono ?_ | refine (in_no _ _ _ _ (by omega)).mono ?_); rintro e w' ⟨rfl, hd⟩))
    go_quiet (fail)
    go_wp2_with (first | (go_at_call 30; (first | refine (in_yes _ _ _ _ (by omega) (by omega)).mono ?_ | refine (in_no _ _ _ _ (by omega)).mono ?_); rintro e w' ⟨rfl, hd⟩))
    go_ret
    exact ⟨ret_int (by have e1 := HL.out; have e2 := HP.out; have e3 := H0.out; have e4 := H2.out; omega), by repeat (first | exact Dr.refl _ | assumption | refine Dr.add ?_ | refine Dr.trans ?_ (by assumption))⟩

set_option maxHeartbeats 600000 in
theorem rstep_3 (a b c : Int) (w : World) (hc : isCellB a b c = true) :
    Calls Try.prog 21 #[.int .i64 a, .int .i64 b, .int .i64 c, .int .i64 3] w fun e w' => e = .returned (.int .i64 (stepF a b c 3)) ∧ Dr w w' := by
  obtain ⟨m, c0, c1⟩ := (isCellB_iff a b c).1 hc
  obtain ⟨m1, m2, m3, m4⟩ := (mayB_iff a b).1 m
  obtain ⟨p1, p2, p3, p4, p5⟩ := place_bd hc
  have hz : ¬ a = 0 := by omega
  have HP := hide p5
  have q0 : (c / a - 1) * a = c / a * a - a := by rw [Int.sub_mul, Int.one_mul]
  have q2 : (c / a + 1) * a = c / a * a + a := by rw [Int.add_mul, Int.one_mul]
  have H0 := hide q0
  have H2 := hide q2
  have hb := may_mul m
  have b0 := mul_bd (w := c / a) (h := a) (W := 1024) (H := 1024) (by omega) (by omega) (by omega) (by omega)
  have b1 : -1024 ≤ (c / a - 1) * a ∧ (c / a - 1) * a ≤ 1048576 := by omega
  have b2 : 0 ≤ (c / a + 1) * a ∧ (c / a + 1) * a ≤ 1049600 := by omega
  have HL := hide (step_lin hc)
  have c2 : c ≤ 1048576 := by omega
  clear p5 q0 q2 c1 hb
  by_cases hg : 1 ≤ c % a
  all_goals
    go_enter Try.func21, Try.ntmps21
    go_wp2_with (first | (go_at_call 31; refine (risCell_any _ _ _ _).mono ?_; rintro e w' ⟨rfl, hd⟩) | (go_at_call 30; (first | refine (in_yes _ _ _ _ (by omega) (by omega)).mono ?_ | refine (in_no _ _ _ _ (by omega)).mono ?_); rintro e w' ⟨rfl, hd⟩))
    go_quiet (fail)
    go_wp2_with (first | (go_at_call 30; (first | refine (in_yes _ _ _ _ (by omega) (by omega)).mono ?_ | refine (in_no _ _ _ _ (by omega)).mono ?_); rintro e w' ⟨rfl, hd⟩))
    go_ret
    exact ⟨ret_int (by have e1 := HL.out; have e2 := HP.out; have e3 := H0.out; have e4 := H2.out; omega), by repeat (first | exact Dr.refl _ | assumption | refine Dr.add ?_ | refine Dr.trans ?_ (by assumption))⟩

set_option maxHeartbeats 600000 in
theorem rstep_4 (a b c : Int) (w : World) (hc : isCellB a b c = true) :
    Calls Try.prog 21 #[.int .i64 a, .int .i64 b, .int .i64 c, .int .i64 4] w fun e w' => e = .returned (.int .i64 (stepF a b c 4)) ∧ Dr w w' := by
  obtain ⟨m, c0, c1⟩ := (isCellB_iff a b c).1 hc
  obtain ⟨m1, m2, m3, m4⟩ := (mayB_iff a b).1 m
  obtain ⟨p1, p2, p3, p4, p5⟩ := place_bd hc
  have hz : ¬ a = 0 := by omega
  have HP := hide p5
  have q0 : (c / a - 1) * a = c / a * a - a := by rw [Int.sub_mul, Int.one_mul]
  have q2 : (c / a + 1) * a = c / a * a + a := by rw [Int.add_mul, Int.one_mul]
  have H0 := hide q0
  have H2 := hide q2
  have hb := may_mul m
  have b0 := mul_bd (w := c / a) (h := a) (W := 1024) (H := 1024) (by omega) (by omega) (by omega) (by omega)
  have b1 : -1024 ≤ (c / a - 1) * a ∧ (c / a - 1) * a ≤ 1048576 := by omega
  have b2 : 0 ≤ (c / a + 1) * a ∧ (c / a + 1) * a ≤ 1049600 := by omega
  have HL := hide (step_lin hc)
  have c2 : c ≤ 1048576 := by omega
  clear p5 q0 q2 c1 hb
  by_cases hg : 0 ≤ c % a
  all_goals
    go_enter Try.func21, Try.ntmps21
    go_wp2_with (first | (go_at_call 31; refine (risCell_any _ _ _ _).mono ?_; rintro e w' ⟨rfl, hd⟩) | (go_at_call 30; (first | refine (in_yes _ _ _ _ (by omega) (by omega)).mono ?_ | refine (in_no _ _ _ _ (by omega)).mono ?_); rintro e w' ⟨rfl, hd⟩))
    go_quiet (fail)
    go_wp2_with (first | (go_at_call 30; (first | refine (in_yes _ _ _ _ (by omega) (by omega)).mono ?_ | refine (in_no _ _ _ _ (by omega)).mono ?_); rintro e w' ⟨rfl, hd⟩))
    go_ret
    exact ⟨ret_int (by have e1 := HL.out; have e2 := HP.out; have e3 := H0.out; have e4 := H2.out; omega), by repeat (first | exact Dr.refl _ | assumption | refine Dr.add ?_ | refine Dr.trans ?_ (by assumption))⟩

end Go.Proofs.Ytigoehoaplndiaa
