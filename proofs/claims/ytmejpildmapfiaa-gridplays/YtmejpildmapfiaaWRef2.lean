/- What the document's own Step, Side, Sector, Count, Size, Local, Global answer: the same plain functions of WMath; nothing is written. -/
import Derived.Test.YtmejpildmapfiaaWRef
namespace Go.Proofs.Ytmejpildmapfiaa
open Go.RowKit

theorem sideF_nocell {a b c d : Int} (hc : isCellB a b c = false) : sideF a b c d = 5 := by
  cases hd : isCellB a b d
  · unfold sideF; rw [if_neg (by simp [hd])]
  · obtain ⟨_, h0, _⟩ := (isCellB_iff a b d).1 hd
    refine sideF_none hd (fun j _ => ?_)
    have : stepF a b c j = -1 := by unfold stepF; rw [if_neg (by simp [hc])]
    omega

set_option maxHeartbeats 400000 in
theorem rsector_yes (a b c : Int) (w : World) (hc : isCellB a b c = true) :
    Calls Try.prog 16 #[.int .i64 a, .int .i64 b, .int .i64 c] w fun e w' => e = .returned (.int .i64 (sectorF a c)) ∧ Dr w w' := by
  obtain ⟨hm, c1, c2⟩ := (isCellB_iff a b c).1 hc
  obtain ⟨m1, m2, m3, m4⟩ := (mayB_iff a b).1 hm
  have hb := across_bd m1 m2
  have pm := may_mul hm
  obtain ⟨p1, p2, p3, p4, p5⟩ := place_bd hc
  have mb := mul_bd (w := c / a / 16) (h := acrossF a) (W := 64) (H := 64) (by omega) (by omega) (by omega) (by omega)
  have hz : ¬ a = 0 := by omega
  have c3 : c ≤ 1048576 := by omega
  clear p5 c2 pm
  go_enter Try.func16, Try.ntmps16
  go_wp2_with (first | (go_at_call 12; refine (risCell_any _ _ _ _).mono ?_; rintro e w' ⟨rfl, hd⟩) | (go_at_call 33; refine (rsectors_yes _ _ _ hm).mono ?_; rintro e w' ⟨rfl, hd⟩))
  go_quiet (fail)
  go_wp2
  go_ret
  exact ⟨rfl, by repeat (first | exact Dr.refl _ | assumption | refine Dr.add ?_ | refine Dr.trans ?_ (by assumption))⟩

set_option maxHeartbeats 400000 in
theorem rsector_no (a b c : Int) (w : World) (hc : isCellB a b c = false) :
    Calls Try.prog 16 #[.int .i64 a, .int .i64 b, .int .i64 c] w fun e w' => e = .returned (.int .i64 (-1)) ∧ Dr w w' := by
  go_enter Try.func16, Try.ntmps16
  go_wp2_with (go_at_call 12; refine (risCell_any _ _ _ _).mono ?_; rintro e w' ⟨rfl, hd⟩)
  go_ret
  exact ⟨rfl, by repeat (first | exact Dr.refl _ | assumption | refine Dr.add ?_ | refine Dr.trans ?_ (by assumption))⟩

def countF (a b : Int) : Int := if mayB a b = true then acrossF a * acrossF b else 0
set_option maxHeartbeats 400000 in
theorem rcount_any (a b : Int) (w : World) :
    Calls Try.prog 11 #[.int .i64 a, .int .i64 b] w fun e w' => e = .returned (.int .i64 (countF a b)) ∧ Dr w w' := by
  cases hm : mayB a b
  · have H : Hid (0 = countF a b) := hide (by unfold countF; rw [if_neg (by simp [hm])])
    go_enter Try.func11, Try.ntmps11
    go_wp2_with (go_at_call 33; refine (rsectors_no _ _ _ hm).mono ?_; rintro e w' ⟨rfl, hd⟩)
    go_ret
    exact ⟨ret_int H.out, by repeat (first | exact Dr.refl _ | assumption | refine Dr.add ?_ | refine Dr.trans ?_ (by assumption))⟩
  · have H : Hid (acrossF a * acrossF b = countF a b) := hide (by unfold countF; rw [if_pos hm])
    have hp := across_mul hm
    go_enter Try.func11, Try.ntmps11
    go_wp2_with (go_at_call 33; refine (rsectors_yes _ _ _ hm).mono ?_; rintro e w' ⟨rfl, hd⟩)
    go_ret
    exact ⟨ret_int H.out, by repeat (first | exact Dr.refl _ | assumption | refine Dr.add ?_ | refine Dr.trans ?_ (by assumption))⟩

theorem count_iff (a b s : Int) : isSectorB a b s = true ↔ 0 ≤ s ∧ s ≤ countF a b - 1 := by
  unfold countF
  cases hm : mayB a b
  · simp [isSectorB, hm]; omega
  · simp [isSectorB, hm]; omega
theorem count_bd (a b : Int) : 0 ≤ countF a b ∧ countF a b ≤ 4096 := by
  unfold countF
  split
  · rename_i h; have := across_mul h; omega
  · omega

set_option maxHeartbeats 1000000 in
theorem rsize_yes (a b s : Int) (w : World) (hs : isSectorB a b s = true) :
    Calls Try.prog 41 #[.int .i64 a, .int .i64 b, .int .i64 s] w fun e w' => e = .returned (.tuple #[.int .i64 (twF a s), .int .i64 (thF a b s)]) ∧ Dr w w' := by
  obtain ⟨hm, s1, s2⟩ := (isSectorB_iff a b s).1 hs
  obtain ⟨m1, m2, m3, m4⟩ := (mayB_iff a b).1 hm
  have hb := across_bd m1 m2
  have hb' := across_bd m3 m4
  obtain ⟨t1, t2, t3, t4, t5⟩ := sector_bd hs
  have cb := count_bd a b
  have k := (count_iff a b s).1 hs
  have hz : ¬ acrossF a = 0 := by omega
  clear t5 s2
  go_enter Try.func41, Try.ntmps41
  go_wp2_with (first | (go_at_call 13; (first | refine (in_yes _ _ _ _ (by omega) (by omega)).mono ?_ | refine (in_no _ _ _ _ (by omega)).mono ?_); rintro e w' ⟨rfl, hd⟩) | (go_at_call 11; refine (rcount_any _ _ _).mono ?_; rintro e w' ⟨rfl, hd⟩) | (go_at_call 33; refine (rsectors_yes _ _ _ hm).mono ?_; rintro e w' ⟨rfl, hd⟩))
  go_region
  all_goals go_wp2
  all_goals
    go_ret2
    exact ⟨ret_int2 (by unfold twF; omega) (by unfold thF; omega), by repeat (first | exact Dr.refl _ | assumption | refine Dr.add ?_ | refine Dr.drew ?_ | refine Dr.trans ?_ (by assumption))⟩

set_option maxHeartbeats 400000 in
theorem rsize_no (a b s : Int) (w : World) (hs : isSectorB a b s = false) :
    Calls Try.prog 41 #[.int .i64 a, .int .i64 b, .int .i64 s] w fun e w' => e = .returned (.tuple #[.int .i64 0, .int .i64 0]) ∧ Dr w w' := by
  have cb := count_bd a b
  have k : s < 0 ∨ countF a b - 1 < s := by
    have n : ¬ (0 ≤ s ∧ s ≤ countF a b - 1) := fun h => by rw [(count_iff a b s).2 h] at hs; cases hs
    omega
  go_enter Try.func41, Try.ntmps41
  go_wp2_with (first | (go_at_call 13; (first | refine (in_yes _ _ _ _ (by omega) (by omega)).mono ?_ | refine (in_no _ _ _ _ (by omega)).mono ?_); rintro e w' ⟨rfl, hd⟩) | (go_at_call 11; refine (rcount_any _ _ _).mono ?_; rintro e w' ⟨rfl, hd⟩))
  go_ret2
  exact ⟨rfl, by repeat (first | exact Dr.refl _ | assumption | refine Dr.add ?_ | refine Dr.trans ?_ (by assumption))⟩

set_option maxHeartbeats 1000000 in
theorem rglobal_yes (a b s l : Int) (w : World) (hs : isSectorB a b s = true) (h0 : 0 ≤ l) (h1 : l < twF a s * thF a b s) :
    Calls Try.prog 42 #[.int .i64 a, .int .i64 b, .int .i64 s, .int .i64 l] w fun e w' => e = .returned (.int .i64 (globalF a s l)) ∧ Dr w w' := by
  obtain ⟨hm, s1, s2⟩ := (isSectorB_iff a b s).1 hs
  have sm := across_mul hm
  obtain ⟨m1, m2, m3, m4⟩ := (mayB_iff a b).1 hm
  have hb := across_bd m1 m2
  obtain ⟨u1, u2, u3, u4, u5, u6⟩ := size_bd hs
  obtain ⟨t1, t2, t3, t4, t5⟩ := sector_bd hs
  obtain ⟨l1, l2, l3, l4, l5⟩ := local_bd hs h0 h1
  have lm := localB_mul hs
  have hz : ¬ twF a s = 0 := by omega
  have hz2 : ¬ acrossF a = 0 := by omega
  have s3 : s ≤ 4096 := by omega
  have mb := mul_bd (w := 16 * (s / acrossF a) + l / twF a s) (h := a) (W := 1024) (H := 1024) (by omega) (by omega) (by omega) (by omega)
  have H : Hid ((16 * (s / acrossF a) + l / twF a s) * a + 16 * (s % acrossF a) + l % twF a s = globalF a s l) :=
    hide (by unfold globalF; rw [Int.mul_comm 16 (s / acrossF a)]; omega)
  clear l5 t5 s2 sm
  go_enter Try.func42, Try.ntmps42
  go_wp2_with (first | (go_at_call 13; (first | refine (in_yes _ _ _ _ (by omega) (by omega)).mono ?_ | refine (in_no _ _ _ _ (by omega)).mono ?_); rintro e w' ⟨rfl, hd⟩) | (go_at_call 41; refine (rsize_yes _ _ _ _ hs).mono ?_; rintro e w' ⟨rfl, hd⟩) | (go_at_call 33; refine (rsectors_yes _ _ _ hm).mono ?_; rintro e w' ⟨rfl, hd⟩))
  have l6 : l ≤ 256 := by omega
  clear h1 lm
  go_quiet (fail)
  go_wp2
  go_ret
  exact ⟨ret_int H.out, by repeat (first | exact Dr.refl _ | assumption | refine Dr.add ?_ | refine Dr.trans ?_ (by assumption))⟩

set_option maxHeartbeats 1000000 in
theorem rglobal_no (a b s l : Int) (w : World) (hs : isSectorB a b s = true) (h : l < 0 ∨ twF a s * thF a b s ≤ l) :
    Calls Try.prog 42 #[.int .i64 a, .int .i64 b, .int .i64 s, .int .i64 l] w fun e w' => e = .returned (.int .i64 (-1)) ∧ Dr w w' := by
  have sb := size_bd hs
  have lm := localB_mul hs
  go_enter Try.func42, Try.ntmps42
  go_wp2_with (first | (go_at_call 13; (first | refine (in_yes _ _ _ _ (by omega) (by omega)).mono ?_ | refine (in_no _ _ _ _ (by omega)).mono ?_); rintro e w' ⟨rfl, hd⟩) | (go_at_call 41; refine (rsize_yes _ _ _ _ hs).mono ?_; rintro e w' ⟨rfl, hd⟩))
  go_ret
  exact ⟨rfl, by repeat (first | exact Dr.refl _ | assumption | refine Dr.add ?_ | refine Dr.trans ?_ (by assumption))⟩

set_option maxHeartbeats 1000000 in
theorem rglobal_none (a b s l : Int) (w : World) (hs : isSectorB a b s = false) :
    Calls Try.prog 42 #[.int .i64 a, .int .i64 b, .int .i64 s, .int .i64 l] w fun e w' => e = .returned (.int .i64 (-1)) ∧ Dr w w' := by
  by_cases h : l < 0
  all_goals
    go_enter Try.func42, Try.ntmps42
    go_wp2_with (first | (go_at_call 13; (first | refine (in_yes _ _ _ _ (by omega) (by omega)).mono ?_ | refine (in_no _ _ _ _ (by omega)).mono ?_); rintro e w' ⟨rfl, hd⟩) | (go_at_call 41; refine (rsize_no _ _ _ _ hs).mono ?_; rintro e w' ⟨rfl, hd⟩))
    go_ret
    exact ⟨rfl, by repeat (first | exact Dr.refl _ | assumption | refine Dr.add ?_ | refine Dr.trans ?_ (by assumption))⟩

end Go.Proofs.Ytmejpildmapfiaa
