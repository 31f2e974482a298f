/- WhereAsks' walk at near numbers, case by case. -/
import Derived.Test.YtleoiibeaaagjaaWLaws
import Derived.Test.YtleoiibeaaagjaaWRef2
namespace Go.Proofs.Ytleoiibeaaagjaa
open Go.RowKit

set_option maxHeartbeats 4000000 in
set_option maxRecDepth 100000 in
theorem asks_near_out0 (a b p0 q0 c0 d0 x y p q c d : Int) (w : World) (Hx : Hid (x = nearX a b)) (Hy : Hid (y = nearY a b))
    (Hp : Hid (p = withinF p0 (-1) x)) (Hq : Hid (q = withinF q0 (-1) y)) (Hc : Hid (c = withinF c0 (-1) (x * y))) (Hd : Hid (d = withinF d0 (-1) 6))
    (hm : mayB x y = true) (hc : isCellB x y c = false) (hx : 0 ≤ p ∧ p < x) (hy : 0 ≤ q ∧ q < y) :
    Calls Try.prog 3 #[.int .i64 a, .int .i64 b, .int .i64 p0, .int .i64 q0, .int .i64 c0, .int .i64 d0, .bool false] w fun e w' => e = .returned (.bool true) ∧ Dr w w' := by
  obtain ⟨m1, m2, m3, m4⟩ := (mayB_iff x y).1 hm
  have hb := mul_bd (w := q) (h := x) (W := 1024) (H := 1024) (by omega) (by omega) (by omega) (by omega)
  have ec := cellF_yes hm hx.1 hx.2 hy.1 hy.2
  have mm := may_mul hm
  go_enter Try.func3, Try.ntmps3
  go_wp2_with fail
  refine (near_is a b _).mono ?_
  rintro e w1 ⟨rfl, hd1⟩
  rw [← Hx.out, ← Hy.out]
  go_wp2_with fail
  refine (within_any _ _ _ _ (by omega) (by omega) (by omega)).mono ?_
  rintro e wvp ⟨rfl, hdvp⟩
  rw [← Hp.out]
  go_wp2_with fail
  refine (within_any _ _ _ _ (by omega) (by omega) (by omega)).mono ?_
  rintro e wvq ⟨rfl, hdvq⟩
  rw [← Hq.out]
  go_wp2_with fail
  refine (within_any _ _ _ _ (by omega) (by omega) (by omega)).mono ?_
  rintro e wvc ⟨rfl, hdvc⟩
  rw [← Hc.out]
  go_wp2_with fail
  refine (within_any _ _ _ _ (by omega) (by omega) (by omega)).mono ?_
  rintro e wvd ⟨rfl, hdvd⟩
  rw [← Hd.out]
  clear mm
  go_wp2_with (first | (go_at_call 17; refine (may_any _ _ _).mono ?_; rintro e w' ⟨rfl, hd⟩) | (go_at_call 10; refine (rmay_any _ _ _).mono ?_; rintro e w' ⟨rfl, hd⟩) | (go_at_call 11; (first | refine (in_yes _ _ _ _ (by omega) (by omega)).mono ?_ | refine (in_no _ _ _ _ (by omega)).mono ?_); rintro e w' ⟨rfl, hd⟩) | (go_at_call 18; refine (cell_any _ _ _ _ _).mono ?_; rintro e w' ⟨rfl, hd⟩) | (go_at_call 12; refine (risCell_any _ _ _ _).mono ?_; rintro e w' ⟨rfl, hd⟩) | (go_at_call 19; refine (step_any _ _ _ _ _).mono ?_; rintro e w' ⟨rfl, hd⟩) | (go_at_call 20; refine (rstep_any _ _ _ _ _).mono ?_; rintro e w' ⟨rfl, hd⟩) | (go_at_call 21; refine (side_any _ _ _ _ _).mono ?_; rintro e w' ⟨rfl, hd⟩) | (go_at_call 22; refine (rside_any _ _ _ _ _).mono ?_; rintro e w' ⟨rfl, hd⟩) | (go_at_call 16; refine (told_any _).mono ?_; rintro e w' ⟨rfl, hd⟩) | (go_at_call 14; refine (sectors_yes _ _ _ hm).mono ?_; rintro e w' ⟨rfl, hd⟩) | (go_at_call 15; refine (rsectors_yes _ _ _ hm).mono ?_; rintro e w' ⟨rfl, hd⟩) | (go_at_call 13; refine (place_no _ _ _ _ hc).mono ?_; rintro e w' ⟨rfl, hd⟩) | (go_at_call 23; refine (sector_no _ _ _ _ hc).mono ?_; rintro e w' ⟨rfl, hd⟩) | (go_at_call 24; refine (rsector_no _ _ _ _ hc).mono ?_; rintro e w' ⟨rfl, hd⟩) | (go_at_call 25; refine (local_no _ _ _ _ hc).mono ?_; rintro e w' ⟨rfl, hd⟩) | (go_at_call 26; refine (rlocal_no _ _ _ _ hc).mono ?_; rintro e w' ⟨rfl, hd⟩))
  go_ret
  exact ⟨ret_bool (by simp), by repeat (first | exact Dr.refl _ | assumption | refine Dr.add ?_ | refine Dr.trans ?_ (by assumption))⟩

set_option maxHeartbeats 4000000 in
set_option maxRecDepth 100000 in
theorem asks_near_out1 (a b p0 q0 c0 d0 x y p q c d : Int) (w : World) (Hx : Hid (x = nearX a b)) (Hy : Hid (y = nearY a b))
    (Hp : Hid (p = withinF p0 (-1) x)) (Hq : Hid (q = withinF q0 (-1) y)) (Hc : Hid (c = withinF c0 (-1) (x * y))) (Hd : Hid (d = withinF d0 (-1) 6))
    (hm : mayB x y = true) (hc : isCellB x y c = false) (hx : 0 ≤ p ∧ p < x) (hy : q < 0 ∨ y - 1 < q) :
    Calls Try.prog 3 #[.int .i64 a, .int .i64 b, .int .i64 p0, .int .i64 q0, .int .i64 c0, .int .i64 d0, .bool false] w fun e w' => e = .returned (.bool true) ∧ Dr w w' := by
  obtain ⟨m1, m2, m3, m4⟩ := (mayB_iff x y).1 hm
  have ec : cellF x y p q = -1 := cellF_no (by omega)
  have mm := may_mul hm
  go_enter Try.func3, Try.ntmps3
  go_wp2_with fail
  refine (near_is a b _).mono ?_
  rintro e w1 ⟨rfl, hd1⟩
  rw [← Hx.out, ← Hy.out]
  go_wp2_with fail
  refine (within_any _ _ _ _ (by omega) (by omega) (by omega)).mono ?_
  rintro e wvp ⟨rfl, hdvp⟩
  rw [← Hp.out]
  go_wp2_with fail
  refine (within_any _ _ _ _ (by omega) (by omega) (by omega)).mono ?_
  rintro e wvq ⟨rfl, hdvq⟩
  rw [← Hq.out]
  go_wp2_with fail
  refine (within_any _ _ _ _ (by omega) (by omega) (by omega)).mono ?_
  rintro e wvc ⟨rfl, hdvc⟩
  rw [← Hc.out]
  go_wp2_with fail
  refine (within_any _ _ _ _ (by omega) (by omega) (by omega)).mono ?_
  rintro e wvd ⟨rfl, hdvd⟩
  rw [← Hd.out]
  clear mm
  go_wp2_with (first | (go_at_call 17; refine (may_any _ _ _).mono ?_; rintro e w' ⟨rfl, hd⟩) | (go_at_call 10; refine (rmay_any _ _ _).mono ?_; rintro e w' ⟨rfl, hd⟩) | (go_at_call 11; (first | refine (in_yes _ _ _ _ (by omega) (by omega)).mono ?_ | refine (in_no _ _ _ _ (by omega)).mono ?_); rintro e w' ⟨rfl, hd⟩) | (go_at_call 18; refine (cell_any _ _ _ _ _).mono ?_; rintro e w' ⟨rfl, hd⟩) | (go_at_call 12; refine (risCell_any _ _ _ _).mono ?_; rintro e w' ⟨rfl, hd⟩) | (go_at_call 19; refine (step_any _ _ _ _ _).mono ?_; rintro e w' ⟨rfl, hd⟩) | (go_at_call 20; refine (rstep_any _ _ _ _ _).mono ?_; rintro e w' ⟨rfl, hd⟩) | (go_at_call 21; refine (side_any _ _ _ _ _).mono ?_; rintro e w' ⟨rfl, hd⟩) | (go_at_call 22; refine (rside_any _ _ _ _ _).mono ?_; rintro e w' ⟨rfl, hd⟩) | (go_at_call 16; refine (told_any _).mono ?_; rintro e w' ⟨rfl, hd⟩) | (go_at_call 14; refine (sectors_yes _ _ _ hm).mono ?_; rintro e w' ⟨rfl, hd⟩) | (go_at_call 15; refine (rsectors_yes _ _ _ hm).mono ?_; rintro e w' ⟨rfl, hd⟩) | (go_at_call 13; refine (place_no _ _ _ _ hc).mono ?_; rintro e w' ⟨rfl, hd⟩) | (go_at_call 23; refine (sector_no _ _ _ _ hc).mono ?_; rintro e w' ⟨rfl, hd⟩) | (go_at_call 24; refine (rsector_no _ _ _ _ hc).mono ?_; rintro e w' ⟨rfl, hd⟩) | (go_at_call 25; refine (local_no _ _ _ _ hc).mono ?_; rintro e w' ⟨rfl, hd⟩) | (go_at_call 26; refine (rlocal_no _ _ _ _ hc).mono ?_; rintro e w' ⟨rfl, hd⟩))
  go_ret
  exact ⟨ret_bool (by simp), by repeat (first | exact Dr.refl _ | assumption | refine Dr.add ?_ | refine Dr.trans ?_ (by assumption))⟩

set_option maxHeartbeats 4000000 in
set_option maxRecDepth 100000 in
theorem asks_near_out2 (a b p0 q0 c0 d0 x y p q c d : Int) (w : World) (Hx : Hid (x = nearX a b)) (Hy : Hid (y = nearY a b))
    (Hp : Hid (p = withinF p0 (-1) x)) (Hq : Hid (q = withinF q0 (-1) y)) (Hc : Hid (c = withinF c0 (-1) (x * y))) (Hd : Hid (d = withinF d0 (-1) 6))
    (hm : mayB x y = true) (hc : isCellB x y c = false) (hx : p < 0 ∨ x - 1 < p) :
    Calls Try.prog 3 #[.int .i64 a, .int .i64 b, .int .i64 p0, .int .i64 q0, .int .i64 c0, .int .i64 d0, .bool false] w fun e w' => e = .returned (.bool true) ∧ Dr w w' := by
  obtain ⟨m1, m2, m3, m4⟩ := (mayB_iff x y).1 hm
  have ec : cellF x y p q = -1 := cellF_no (by omega)
  have mm := may_mul hm
  go_enter Try.func3, Try.ntmps3
  go_wp2_with fail
  refine (near_is a b _).mono ?_
  rintro e w1 ⟨rfl, hd1⟩
  rw [← Hx.out, ← Hy.out]
  go_wp2_with fail
  refine (within_any _ _ _ _ (by omega) (by omega) (by omega)).mono ?_
  rintro e wvp ⟨rfl, hdvp⟩
  rw [← Hp.out]
  go_wp2_with fail
  refine (within_any _ _ _ _ (by omega) (by omega) (by omega)).mono ?_
  rintro e wvq ⟨rfl, hdvq⟩
  rw [← Hq.out]
  go_wp2_with fail
  refine (within_any _ _ _ _ (by omega) (by omega) (by omega)).mono ?_
  rintro e wvc ⟨rfl, hdvc⟩
  rw [← Hc.out]
  go_wp2_with fail
  refine (within_any _ _ _ _ (by omega) (by omega) (by omega)).mono ?_
  rintro e wvd ⟨rfl, hdvd⟩
  rw [← Hd.out]
  clear mm
  go_wp2_with (first | (go_at_call 17; refine (may_any _ _ _).mono ?_; rintro e w' ⟨rfl, hd⟩) | (go_at_call 10; refine (rmay_any _ _ _).mono ?_; rintro e w' ⟨rfl, hd⟩) | (go_at_call 11; (first | refine (in_yes _ _ _ _ (by omega) (by omega)).mono ?_ | refine (in_no _ _ _ _ (by omega)).mono ?_); rintro e w' ⟨rfl, hd⟩) | (go_at_call 18; refine (cell_any _ _ _ _ _).mono ?_; rintro e w' ⟨rfl, hd⟩) | (go_at_call 12; refine (risCell_any _ _ _ _).mono ?_; rintro e w' ⟨rfl, hd⟩) | (go_at_call 19; refine (step_any _ _ _ _ _).mono ?_; rintro e w' ⟨rfl, hd⟩) | (go_at_call 20; refine (rstep_any _ _ _ _ _).mono ?_; rintro e w' ⟨rfl, hd⟩) | (go_at_call 21; refine (side_any _ _ _ _ _).mono ?_; rintro e w' ⟨rfl, hd⟩) | (go_at_call 22; refine (rside_any _ _ _ _ _).mono ?_; rintro e w' ⟨rfl, hd⟩) | (go_at_call 16; refine (told_any _).mono ?_; rintro e w' ⟨rfl, hd⟩) | (go_at_call 14; refine (sectors_yes _ _ _ hm).mono ?_; rintro e w' ⟨rfl, hd⟩) | (go_at_call 15; refine (rsectors_yes _ _ _ hm).mono ?_; rintro e w' ⟨rfl, hd⟩) | (go_at_call 13; refine (place_no _ _ _ _ hc).mono ?_; rintro e w' ⟨rfl, hd⟩) | (go_at_call 23; refine (sector_no _ _ _ _ hc).mono ?_; rintro e w' ⟨rfl, hd⟩) | (go_at_call 24; refine (rsector_no _ _ _ _ hc).mono ?_; rintro e w' ⟨rfl, hd⟩) | (go_at_call 25; refine (local_no _ _ _ _ hc).mono ?_; rintro e w' ⟨rfl, hd⟩) | (go_at_call 26; refine (rlocal_no _ _ _ _ hc).mono ?_; rintro e w' ⟨rfl, hd⟩))
  go_ret
  exact ⟨ret_bool (by simp), by repeat (first | exact Dr.refl _ | assumption | refine Dr.add ?_ | refine Dr.trans ?_ (by assumption))⟩

end Go.Proofs.Ytleoiibeaaagjaa
