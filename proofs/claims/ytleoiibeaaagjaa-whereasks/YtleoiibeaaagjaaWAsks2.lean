/- WhereAsks' walk at raw numbers, case by case. -/
import Derived.Test.YtleoiibeaaagjaaWLaws
import Derived.Test.YtleoiibeaaagjaaWRef2
namespace Go.Proofs.Ytleoiibeaaagjaa
open Go.RowKit

set_option maxHeartbeats 4000000 in
set_option maxRecDepth 100000 in
theorem asks_raw_in0 (a b p q c sd : Int) (w : World) (hm : mayB a b = true) (hc : isCellB a b c = true) (hx : 0 ≤ p ∧ p < a) (hy : 0 ≤ q ∧ q < b) :
    Calls Try.prog 3 #[.int .i64 a, .int .i64 b, .int .i64 p, .int .i64 q, .int .i64 c, .int .i64 sd, .bool true] w fun e w' => e = .returned (.bool true) ∧ Dr w w' := by
  obtain ⟨m1, m2, m3, m4⟩ := (mayB_iff a b).1 hm
  obtain ⟨_, c1, c2⟩ := (isCellB_iff a b c).1 hc
  have pm := may_mul hm
  have c3 : c ≤ 1048576 := by omega
  have hz : ¬ a = 0 := by omega
  clear c2 pm
  have hb := mul_bd (w := q) (h := a) (W := 1024) (H := 1024) (by omega) (by omega) (by omega) (by omega)
  have ec := cellF_yes hm hx.1 hx.2 hy.1 hy.2
  go_enter Try.func3, Try.ntmps3
  go_wp2_with (first | (go_at_call 17; refine (may_any _ _ _).mono ?_; rintro e w' ⟨rfl, hd⟩) | (go_at_call 10; refine (rmay_any _ _ _).mono ?_; rintro e w' ⟨rfl, hd⟩) | (go_at_call 11; (first | refine (in_yes _ _ _ _ (by omega) (by omega)).mono ?_ | refine (in_no _ _ _ _ (by omega)).mono ?_); rintro e w' ⟨rfl, hd⟩) | (go_at_call 18; refine (cell_any _ _ _ _ _).mono ?_; rintro e w' ⟨rfl, hd⟩) | (go_at_call 12; refine (risCell_any _ _ _ _).mono ?_; rintro e w' ⟨rfl, hd⟩) | (go_at_call 19; refine (step_any _ _ _ _ _).mono ?_; rintro e w' ⟨rfl, hd⟩) | (go_at_call 20; refine (rstep_any _ _ _ _ _).mono ?_; rintro e w' ⟨rfl, hd⟩) | (go_at_call 21; refine (side_any _ _ _ _ _).mono ?_; rintro e w' ⟨rfl, hd⟩) | (go_at_call 22; refine (rside_any _ _ _ _ _).mono ?_; rintro e w' ⟨rfl, hd⟩) | (go_at_call 16; refine (told_any _).mono ?_; rintro e w' ⟨rfl, hd⟩) | (go_at_call 14; refine (sectors_yes _ _ _ hm).mono ?_; rintro e w' ⟨rfl, hd⟩) | (go_at_call 15; refine (rsectors_yes _ _ _ hm).mono ?_; rintro e w' ⟨rfl, hd⟩) | (go_at_call 13; refine (place_yes _ _ _ _ hc).mono ?_; rintro e w' ⟨rfl, hd⟩) | (go_at_call 23; refine (sector_yes _ _ _ _ hc).mono ?_; rintro e w' ⟨rfl, hd⟩) | (go_at_call 24; refine (rsector_yes _ _ _ _ hc).mono ?_; rintro e w' ⟨rfl, hd⟩) | (go_at_call 25; refine (local_yes _ _ _ _ hc).mono ?_; rintro e w' ⟨rfl, hd⟩) | (go_at_call 26; refine (rlocal_yes _ _ _ _ hc).mono ?_; rintro e w' ⟨rfl, hd⟩))
  go_quiet (fail)
  go_wp2_with (first | (go_at_call 17; refine (may_any _ _ _).mono ?_; rintro e w' ⟨rfl, hd⟩) | (go_at_call 10; refine (rmay_any _ _ _).mono ?_; rintro e w' ⟨rfl, hd⟩) | (go_at_call 11; (first | refine (in_yes _ _ _ _ (by omega) (by omega)).mono ?_ | refine (in_no _ _ _ _ (by omega)).mono ?_); rintro e w' ⟨rfl, hd⟩) | (go_at_call 18; refine (cell_any _ _ _ _ _).mono ?_; rintro e w' ⟨rfl, hd⟩) | (go_at_call 12; refine (risCell_any _ _ _ _).mono ?_; rintro e w' ⟨rfl, hd⟩) | (go_at_call 19; refine (step_any _ _ _ _ _).mono ?_; rintro e w' ⟨rfl, hd⟩) | (go_at_call 20; refine (rstep_any _ _ _ _ _).mono ?_; rintro e w' ⟨rfl, hd⟩) | (go_at_call 21; refine (side_any _ _ _ _ _).mono ?_; rintro e w' ⟨rfl, hd⟩) | (go_at_call 22; refine (rside_any _ _ _ _ _).mono ?_; rintro e w' ⟨rfl, hd⟩) | (go_at_call 16; refine (told_any _).mono ?_; rintro e w' ⟨rfl, hd⟩) | (go_at_call 14; refine (sectors_yes _ _ _ hm).mono ?_; rintro e w' ⟨rfl, hd⟩) | (go_at_call 15; refine (rsectors_yes _ _ _ hm).mono ?_; rintro e w' ⟨rfl, hd⟩) | (go_at_call 13; refine (place_yes _ _ _ _ hc).mono ?_; rintro e w' ⟨rfl, hd⟩) | (go_at_call 23; refine (sector_yes _ _ _ _ hc).mono ?_; rintro e w' ⟨rfl, hd⟩) | (go_at_call 24; refine (rsector_yes _ _ _ _ hc).mono ?_; rintro e w' ⟨rfl, hd⟩) | (go_at_call 25; refine (local_yes _ _ _ _ hc).mono ?_; rintro e w' ⟨rfl, hd⟩) | (go_at_call 26; refine (rlocal_yes _ _ _ _ hc).mono ?_; rintro e w' ⟨rfl, hd⟩))
  go_ret
  exact ⟨ret_bool (by simp), by repeat (first | exact Dr.refl _ | assumption | refine Dr.add ?_ | refine Dr.trans ?_ (by assumption))⟩

set_option maxHeartbeats 4000000 in
set_option maxRecDepth 100000 in
theorem asks_raw_in1 (a b p q c sd : Int) (w : World) (hm : mayB a b = true) (hc : isCellB a b c = true) (hx : 0 ≤ p ∧ p < a) (hy : q < 0 ∨ b - 1 < q) :
    Calls Try.prog 3 #[.int .i64 a, .int .i64 b, .int .i64 p, .int .i64 q, .int .i64 c, .int .i64 sd, .bool true] w fun e w' => e = .returned (.bool true) ∧ Dr w w' := by
  obtain ⟨m1, m2, m3, m4⟩ := (mayB_iff a b).1 hm
  obtain ⟨_, c1, c2⟩ := (isCellB_iff a b c).1 hc
  have pm := may_mul hm
  have c3 : c ≤ 1048576 := by omega
  have hz : ¬ a = 0 := by omega
  clear c2 pm
  have ec : cellF a b p q = -1 := cellF_no (by omega)
  go_enter Try.func3, Try.ntmps3
  go_wp2_with (first | (go_at_call 17; refine (may_any _ _ _).mono ?_; rintro e w' ⟨rfl, hd⟩) | (go_at_call 10; refine (rmay_any _ _ _).mono ?_; rintro e w' ⟨rfl, hd⟩) | (go_at_call 11; (first | refine (in_yes _ _ _ _ (by omega) (by omega)).mono ?_ | refine (in_no _ _ _ _ (by omega)).mono ?_); rintro e w' ⟨rfl, hd⟩) | (go_at_call 18; refine (cell_any _ _ _ _ _).mono ?_; rintro e w' ⟨rfl, hd⟩) | (go_at_call 12; refine (risCell_any _ _ _ _).mono ?_; rintro e w' ⟨rfl, hd⟩) | (go_at_call 19; refine (step_any _ _ _ _ _).mono ?_; rintro e w' ⟨rfl, hd⟩) | (go_at_call 20; refine (rstep_any _ _ _ _ _).mono ?_; rintro e w' ⟨rfl, hd⟩) | (go_at_call 21; refine (side_any _ _ _ _ _).mono ?_; rintro e w' ⟨rfl, hd⟩) | (go_at_call 22; refine (rside_any _ _ _ _ _).mono ?_; rintro e w' ⟨rfl, hd⟩) | (go_at_call 16; refine (told_any _).mono ?_; rintro e w' ⟨rfl, hd⟩) | (go_at_call 14; refine (sectors_yes _ _ _ hm).mono ?_; rintro e w' ⟨rfl, hd⟩) | (go_at_call 15; refine (rsectors_yes _ _ _ hm).mono ?_; rintro e w' ⟨rfl, hd⟩) | (go_at_call 13; refine (place_yes _ _ _ _ hc).mono ?_; rintro e w' ⟨rfl, hd⟩) | (go_at_call 23; refine (sector_yes _ _ _ _ hc).mono ?_; rintro e w' ⟨rfl, hd⟩) | (go_at_call 24; refine (rsector_yes _ _ _ _ hc).mono ?_; rintro e w' ⟨rfl, hd⟩) | (go_at_call 25; refine (local_yes _ _ _ _ hc).mono ?_; rintro e w' ⟨rfl, hd⟩) | (go_at_call 26; refine (rlocal_yes _ _ _ _ hc).mono ?_; rintro e w' ⟨rfl, hd⟩))
  go_quiet (fail)
  go_wp2_with (first | (go_at_call 17; refine (may_any _ _ _).mono ?_; rintro e w' ⟨rfl, hd⟩) | (go_at_call 10; refine (rmay_any _ _ _).mono ?_; rintro e w' ⟨rfl, hd⟩) | (go_at_call 11; (first | refine (in_yes _ _ _ _ (by omega) (by omega)).mono ?_ | refine (in_no _ _ _ _ (by omega)).mono ?_); rintro e w' ⟨rfl, hd⟩) | (go_at_call 18; refine (cell_any _ _ _ _ _).mono ?_; rintro e w' ⟨rfl, hd⟩) | (go_at_call 12; refine (risCell_any _ _ _ _).mono ?_; rintro e w' ⟨rfl, hd⟩) | (go_at_call 19; refine (step_any _ _ _ _ _).mono ?_; rintro e w' ⟨rfl, hd⟩) | (go_at_call 20; refine (rstep_any _ _ _ _ _).mono ?_; rintro e w' ⟨rfl, hd⟩) | (go_at_call 21; refine (side_any _ _ _ _ _).mono ?_; rintro e w' ⟨rfl, hd⟩) | (go_at_call 22; refine (rside_any _ _ _ _ _).mono ?_; rintro e w' ⟨rfl, hd⟩) | (go_at_call 16; refine (told_any _).mono ?_; rintro e w' ⟨rfl, hd⟩) | (go_at_call 14; refine (sectors_yes _ _ _ hm).mono ?_; rintro e w' ⟨rfl, hd⟩) | (go_at_call 15; refine (rsectors_yes _ _ _ hm).mono ?_; rintro e w' ⟨rfl, hd⟩) | (go_at_call 13; refine (place_yes _ _ _ _ hc).mono ?_; rintro e w' ⟨rfl, hd⟩) | (go_at_call 23; refine (sector_yes _ _ _ _ hc).mono ?_; rintro e w' ⟨rfl, hd⟩) | (go_at_call 24; refine (rsector_yes _ _ _ _ hc).mono ?_; rintro e w' ⟨rfl, hd⟩) | (go_at_call 25; refine (local_yes _ _ _ _ hc).mono ?_; rintro e w' ⟨rfl, hd⟩) | (go_at_call 26; refine (rlocal_yes _ _ _ _ hc).mono ?_; rintro e w' ⟨rfl, hd⟩))
  go_ret
  exact ⟨ret_bool (by simp), by repeat (first | exact Dr.refl _ | assumption | refine Dr.add ?_ | refine Dr.trans ?_ (by assumption))⟩

set_option maxHeartbeats 4000000 in
set_option maxRecDepth 100000 in
theorem asks_raw_in2 (a b p q c sd : Int) (w : World) (hm : mayB a b = true) (hc : isCellB a b c = true) (hx : p < 0 ∨ a - 1 < p) :
    Calls Try.prog 3 #[.int .i64 a, .int .i64 b, .int .i64 p, .int .i64 q, .int .i64 c, .int .i64 sd, .bool true] w fun e w' => e = .returned (.bool true) ∧ Dr w w' := by
  obtain ⟨m1, m2, m3, m4⟩ := (mayB_iff a b).1 hm
  obtain ⟨_, c1, c2⟩ := (isCellB_iff a b c).1 hc
  have pm := may_mul hm
  have c3 : c ≤ 1048576 := by omega
  have hz : ¬ a = 0 := by omega
  clear c2 pm
  have ec : cellF a b p q = -1 := cellF_no (by omega)
  go_enter Try.func3, Try.ntmps3
  go_wp2_with (first | (go_at_call 17; refine (may_any _ _ _).mono ?_; rintro e w' ⟨rfl, hd⟩) | (go_at_call 10; refine (rmay_any _ _ _).mono ?_; rintro e w' ⟨rfl, hd⟩) | (go_at_call 11; (first | refine (in_yes _ _ _ _ (by omega) (by omega)).mono ?_ | refine (in_no _ _ _ _ (by omega)).mono ?_); rintro e w' ⟨rfl, hd⟩) | (go_at_call 18; refine (cell_any _ _ _ _ _).mono ?_; rintro e w' ⟨rfl, hd⟩) | (go_at_call 12; refine (risCell_any _ _ _ _).mono ?_; rintro e w' ⟨rfl, hd⟩) | (go_at_call 19; refine (step_any _ _ _ _ _).mono ?_; rintro e w' ⟨rfl, hd⟩) | (go_at_call 20; refine (rstep_any _ _ _ _ _).mono ?_; rintro e w' ⟨rfl, hd⟩) | (go_at_call 21; refine (side_any _ _ _ _ _).mono ?_; rintro e w' ⟨rfl, hd⟩) | (go_at_call 22; refine (rside_any _ _ _ _ _).mono ?_; rintro e w' ⟨rfl, hd⟩) | (go_at_call 16; refine (told_any _).mono ?_; rintro e w' ⟨rfl, hd⟩) | (go_at_call 14; refine (sectors_yes _ _ _ hm).mono ?_; rintro e w' ⟨rfl, hd⟩) | (go_at_call 15; refine (rsectors_yes _ _ _ hm).mono ?_; rintro e w' ⟨rfl, hd⟩) | (go_at_call 13; refine (place_yes _ _ _ _ hc).mono ?_; rintro e w' ⟨rfl, hd⟩) | (go_at_call 23; refine (sector_yes _ _ _ _ hc).mono ?_; rintro e w' ⟨rfl, hd⟩) | (go_at_call 24; refine (rsector_yes _ _ _ _ hc).mono ?_; rintro e w' ⟨rfl, hd⟩) | (go_at_call 25; refine (local_yes _ _ _ _ hc).mono ?_; rintro e w' ⟨rfl, hd⟩) | (go_at_call 26; refine (rlocal_yes _ _ _ _ hc).mono ?_; rintro e w' ⟨rfl, hd⟩))
  go_quiet (fail)
  go_wp2_with (first | (go_at_call 17; refine (may_any _ _ _).mono ?_; rintro e w' ⟨rfl, hd⟩) | (go_at_call 10; refine (rmay_any _ _ _).mono ?_; rintro e w' ⟨rfl, hd⟩) | (go_at_call 11; (first | refine (in_yes _ _ _ _ (by omega) (by omega)).mono ?_ | refine (in_no _ _ _ _ (by omega)).mono ?_); rintro e w' ⟨rfl, hd⟩) | (go_at_call 18; refine (cell_any _ _ _ _ _).mono ?_; rintro e w' ⟨rfl, hd⟩) | (go_at_call 12; refine (risCell_any _ _ _ _).mono ?_; rintro e w' ⟨rfl, hd⟩) | (go_at_call 19; refine (step_any _ _ _ _ _).mono ?_; rintro e w' ⟨rfl, hd⟩) | (go_at_call 20; refine (rstep_any _ _ _ _ _).mono ?_; rintro e w' ⟨rfl, hd⟩) | (go_at_call 21; refine (side_any _ _ _ _ _).mono ?_; rintro e w' ⟨rfl, hd⟩) | (go_at_call 22; refine (rside_any _ _ _ _ _).mono ?_; rintro e w' ⟨rfl, hd⟩) | (go_at_call 16; refine (told_any _).mono ?_; rintro e w' ⟨rfl, hd⟩) | (go_at_call 14; refine (sectors_yes _ _ _ hm).mono ?_; rintro e w' ⟨rfl, hd⟩) | (go_at_call 15; refine (rsectors_yes _ _ _ hm).mono ?_; rintro e w' ⟨rfl, hd⟩) | (go_at_call 13; refine (place_yes _ _ _ _ hc).mono ?_; rintro e w' ⟨rfl, hd⟩) | (go_at_call 23; refine (sector_yes _ _ _ _ hc).mono ?_; rintro e w' ⟨rfl, hd⟩) | (go_at_call 24; refine (rsector_yes _ _ _ _ hc).mono ?_; rintro e w' ⟨rfl, hd⟩) | (go_at_call 25; refine (local_yes _ _ _ _ hc).mono ?_; rintro e w' ⟨rfl, hd⟩) | (go_at_call 26; refine (rlocal_yes _ _ _ _ hc).mono ?_; rintro e w' ⟨rfl, hd⟩))
  go_ret
  exact ⟨ret_bool (by simp), by repeat (first | exact Dr.refl _ | assumption | refine Dr.add ?_ | refine Dr.trans ?_ (by assumption))⟩

end Go.Proofs.Ytleoiibeaaagjaa
