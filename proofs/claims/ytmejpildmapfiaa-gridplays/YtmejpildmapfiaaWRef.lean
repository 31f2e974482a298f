/- What the document's own In, May, IsCell, Step, Side, Sectors answer: the same plain functions of WMath; nothing is written. -/
import Derived.Test.YtmejpildmapfiaaWWalks3
namespace Go.Proofs.Ytmejpildmapfiaa
open Go.RowKit

set_option maxHeartbeats 400000 in
theorem in_yes (n lo hi : Int) (w : World) (h1 : lo ≤ n) (h2 : n ≤ hi) :
    Calls Try.prog 13 #[.int .i64 n, .int .i64 lo, .int .i64 hi] w fun e w' => e = .returned (.bool true) ∧ Dr w w' := by
  go_enter Try.func13, Try.ntmps13
  go_wp2
  go_ret
  exact ⟨rfl, Dr.refl _⟩

set_option maxHeartbeats 400000 in
theorem in_no (n lo hi : Int) (w : World) (h : n < lo ∨ hi < n) :
    Calls Try.prog 13 #[.int .i64 n, .int .i64 lo, .int .i64 hi] w fun e w' => e = .returned (.bool false) ∧ Dr w w' := by
  by_cases h1 : lo ≤ n
  · have h2 : ¬ n ≤ hi := by omega
    clear h
    go_enter Try.func13, Try.ntmps13
    go_wp2
    go_ret
    exact ⟨rfl, Dr.refl _⟩
  · clear h
    go_enter Try.func13, Try.ntmps13
    go_wp2
    go_ret
    exact ⟨rfl, Dr.refl _⟩

set_option maxHeartbeats 400000 in
theorem rmay_any (a b : Int) (w : World) :
    Calls Try.prog 34 #[.int .i64 a, .int .i64 b] w fun e w' => e = .returned (.bool (mayB a b)) ∧ Dr w w' := by
  by_cases h1 : 1 ≤ a ∧ a ≤ 1024
  · obtain ⟨h1, h2⟩ := h1
    by_cases h3 : 1 ≤ b ∧ b ≤ 1024
    · obtain ⟨h3, h4⟩ := h3
      go_enter Try.func34, Try.ntmps34
      go_wp2_with (go_at_call 13; (first | refine (in_yes _ _ _ _ (by omega) (by omega)).mono ?_ | refine (in_no _ _ _ _ (by omega)).mono ?_); rintro e w' ⟨rfl, hd⟩)
      go_ret
      exact ⟨ret_bool (by simp [mayB, h1, h2, h3, h4]), by repeat (first | exact Dr.refl _ | assumption | refine Dr.add ?_ | refine Dr.trans ?_ (by assumption))⟩
    · have h5 : b < 1 ∨ 1024 < b := by omega
      go_enter Try.func34, Try.ntmps34
      go_wp2_with (go_at_call 13; (first | refine (in_yes _ _ _ _ (by omega) (by omega)).mono ?_ | refine (in_no _ _ _ _ (by omega)).mono ?_); rintro e w' ⟨rfl, hd⟩)
      go_ret
      exact ⟨ret_bool ((mayB_false _ _).2 (by omega)).symm, by repeat (first | exact Dr.refl _ | assumption | refine Dr.add ?_ | refine Dr.trans ?_ (by assumption))⟩
  · have h5 : a < 1 ∨ 1024 < a := by omega
    go_enter Try.func34, Try.ntmps34
    go_wp2_with (go_at_call 13; (first | refine (in_yes _ _ _ _ (by omega) (by omega)).mono ?_ | refine (in_no _ _ _ _ (by omega)).mono ?_); rintro e w' ⟨rfl, hd⟩)
    go_ret
    exact ⟨ret_bool ((mayB_false _ _).2 (by omega)).symm, by repeat (first | exact Dr.refl _ | assumption | refine Dr.add ?_ | refine Dr.trans ?_ (by assumption))⟩

set_option maxHeartbeats 400000 in
theorem risCell_any (a b c : Int) (w : World) :
    Calls Try.prog 12 #[.int .i64 a, .int .i64 b, .int .i64 c] w fun e w' => e = .returned (.bool (isCellB a b c)) ∧ Dr w w' := by
  cases hm : mayB a b
  · go_enter Try.func12, Try.ntmps12
    go_wp2_with (go_at_call 34; refine (rmay_any _ _ _).mono ?_; rintro e w' ⟨rfl, hd⟩)
    go_ret
    exact ⟨ret_bool (by simp [isCellB, hm]), by repeat (first | exact Dr.refl _ | assumption | refine Dr.add ?_ | refine Dr.trans ?_ (by assumption))⟩
  · have hp := may_mul hm
    by_cases h : 0 ≤ c ∧ c < a * b
    · obtain ⟨h1, h2⟩ := h
      go_enter Try.func12, Try.ntmps12
      go_wp2_with (first | (go_at_call 34; refine (rmay_any _ _ _).mono ?_; rintro e w' ⟨rfl, hd⟩) | (go_at_call 13; (first | refine (in_yes _ _ _ _ (by omega) (by omega)).mono ?_ | refine (in_no _ _ _ _ (by omega)).mono ?_); rintro e w' ⟨rfl, hd⟩))
      go_ret
      exact ⟨ret_bool (by simp [isCellB, hm, h1, h2]), by repeat (first | exact Dr.refl _ | assumption | refine Dr.add ?_ | refine Dr.trans ?_ (by assumption))⟩
    · have h5 : c < 0 ∨ a * b ≤ c := by omega
      go_enter Try.func12, Try.ntmps12
      go_wp2_with (first | (go_at_call 34; refine (rmay_any _ _ _).mono ?_; rintro e w' ⟨rfl, hd⟩) | (go_at_call 13; (first | refine (in_yes _ _ _ _ (by omega) (by omega)).mono ?_ | refine (in_no _ _ _ _ (by omega)).mono ?_); rintro e w' ⟨rfl, hd⟩))
      go_ret
      exact ⟨ret_bool (by simp [isCellB, hm]; omega), by repeat (first | exact Dr.refl _ | assumption | refine Dr.add ?_ | refine Dr.trans ?_ (by assumption))⟩

set_option maxHeartbeats 400000 in
theorem rsectors_yes (a b : Int) (w : World) (hm : mayB a b = true) :
    Calls Try.prog 33 #[.int .i64 a, .int .i64 b] w fun e w' => e = .returned (.tuple #[.int .i64 (acrossF a), .int .i64 (acrossF b)]) ∧ Dr w w' := by
  obtain ⟨m1, m2, m3, m4⟩ := (mayB_iff a b).1 hm
  go_enter Try.func33, Try.ntmps33
  go_wp2_with (go_at_call 34; refine (rmay_any _ _ _).mono ?_; rintro e w' ⟨rfl, hd⟩)
  go_ret2
  exact ⟨ret_int2 (by unfold acrossF; omega) (by unfold acrossF; omega), by repeat (first | exact Dr.refl _ | assumption | refine Dr.add ?_ | refine Dr.trans ?_ (by assumption))⟩

set_option maxHeartbeats 400000 in
theorem rsectors_no (a b : Int) (w : World) (hm : mayB a b = false) :
    Calls Try.prog 33 #[.int .i64 a, .int .i64 b] w fun e w' => e = .returned (.tuple #[.int .i64 0, .int .i64 0]) ∧ Dr w w' := by
  go_enter Try.func33, Try.ntmps33
  go_wp2_with (go_at_call 34; refine (rmay_any _ _ _).mono ?_; rintro e w' ⟨rfl, hd⟩)
  go_ret2
  exact ⟨rfl, by repeat (first | exact Dr.refl _ | assumption | refine Dr.add ?_ | refine Dr.trans ?_ (by assumption))⟩

end Go.Proofs.Ytmejpildmapfiaa
