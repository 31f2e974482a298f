/- What the document's own Step, Side, Sector, Count, Size, Local, Global answer: the same plain functions of WMath; nothing is written. -/
import Derived.Test.YtigoehoaplndiaaWRef
namespace Go.Proofs.Ytigoehoaplndiaa
open Go.RowKit

set_option maxHeartbeats 400000 in
theorem rstep_no (a b c s : Int) (w : World) (hc : isCellB a b c = false) :
    Calls Try.prog 21 #[.int .i64 a, .int .i64 b, .int .i64 c, .int .i64 s] w fun e w' => e = .returned (.int .i64 (stepF a b c s)) ∧ Dr w w' := by
  have H : Hid (-1 = stepF a b c s) := hide (by unfold stepF; rw [if_neg (by simp [hc])])
  go_enter Try.func21, Try.ntmps21
  go_wp2_with (go_at_call 31; refine (risCell_any _ _ _ _).mono ?_; rintro e w' ⟨rfl, hd⟩)
  go_ret
  exact ⟨ret_int H.out, by repeat (first | exact Dr.refl _ | assumption | refine Dr.add ?_ | refine Dr.trans ?_ (by assumption))⟩

set_option maxHeartbeats 400000 in
theorem rstep_other (a b c s : Int) (w : World) (hc : isCellB a b c = true) (hs : s < 0 ∨ 4 < s) :
    Calls Try.prog 21 #[.int .i64 a, .int .i64 b, .int .i64 c, .int .i64 s] w fun e w' => e = .returned (.int .i64 (stepF a b c s)) ∧ Dr w w' := by
  have H : Hid (-1 = stepF a b c s) := hide (by unfold stepF; rw [if_pos hc, if_neg (by omega), if_neg (by omega), if_neg (by omega), if_neg (by omega), if_neg (by omega)])
  go_enter Try.func21, Try.ntmps21
  go_wp2_with (first | (go_at_call 31; refine (risCell_any _ _ _ _).mono ?_; rintro e w' ⟨rfl, hd⟩) | (go_at_call 30; (first | refine (in_yes _ _ _ _ (by omega) (by omega)).mono ?_ | refine (in_no _ _ _ _ (by omega)).mono ?_); rintro e w' ⟨rfl, hd⟩))
  go_ret
  exact ⟨ret_int H.out, by repeat (first | exact Dr.refl _ | assumption | refine Dr.add ?_ | refine Dr.trans ?_ (by assumption))⟩

theorem rstep_any (a b c s : Int) (w : World) :
    Calls Try.prog 21 #[.int .i64 a, .int .i64 b, .int .i64 c, .int .i64 s] w fun e w' => e = .returned (.int .i64 (stepF a b c s)) ∧ Dr w w' := by
  cases hc : isCellB a b c
  · exact rstep_no a b c s w hc
  · by_cases h : s < 0 ∨ 4 < s
    · exact rstep_other a b c s w hc h
    · rcases (by omega : s = 0 ∨ s = 1 ∨ s = 2 ∨ s = 3 ∨ s = 4) with rfl | rfl | rfl | rfl | rfl
      · exact rstep_0 a b c w hc
      · exact rstep_1 a b c w hc
      · exact rstep_2 a b c w hc
      · exact rstep_3 a b c w hc
      · exact rstep_4 a b c w hc

theorem sideF_nocell {a b c d : Int} (hc : isCellB a b c = false) : sideF a b c d = 5 := by
  cases hd : isCellB a b d
  · unfold sideF; rw [if_neg (by simp [hd])]
  · obtain ⟨_, h0, _⟩ := (isCellB_iff a b d).1 hd
    refine sideF_none hd (fun j _ => ?_)
    have : stepF a b c j = -1 := by unfold stepF; rw [if_neg (by simp [hc])]
    omega

def countF (a b : Int) : Int := if mayB a b = true then acrossF a * acrossF b else 0
theorem count_iff (a b s : Int) : isSectorB a b s = true ↔ 0 ≤ s ∧ s ≤ countF a b - 1 := by
  unfold countF
  cases hm : mayB a b
  · simp [isSectorB, hm]; omega
  · simp [isSectorB, hm]; omega
theorem count_bd (a b : Int) : 0 ≤ countF a b ∧ countF a b ≤ 4096 := by
  unfold countF
  split
  · rename_i h; have := across_mul h; omega
  · omega

end Go.Proofs.Ytigoehoaplndiaa
