/- The statements' own helpers of layer 1: the example of a map of 20 by 3 is as told; 'near' gives a size that may be. -/
import Derived.Test.YtleoiibeaaagjaaWWalks3
namespace Go.Proofs.Ytleoiibeaaagjaa
open Go.RowKit

set_option maxHeartbeats 1000000 in
theorem told_any (w : World) :
    Calls Try.prog 16 #[] w fun e w' => e = .returned (.bool true) ∧ Dr w w' := by
  have e1 : acrossF 20 = 2 := by decide
  have e2 : acrossF 3 = 1 := by decide
  have e3 : twF 20 1 = 4 := by decide
  have e4 : thF 20 3 1 = 3 := by decide
  have e5 : cellF 20 3 17 2 = 57 := by decide
  have e6 : sectorF 20 57 = 1 := by decide
  have e7 : localF 20 57 = 9 := by decide
  have e8 : stepF 20 3 57 2 = -1 := by decide
  have e9 : stepF 20 3 57 3 = 56 := by decide
  go_enter Try.func16, Try.ntmps16
  go_wp2_with (first | (go_at_call 14; refine (sectors_yes _ _ _ (by decide)).mono ?_; rintro e w' ⟨rfl, hd⟩) | (go_at_call 28; refine (size_yes _ _ _ _ (by decide)).mono ?_; rintro e w' ⟨rfl, hd⟩) | (go_at_call 18; refine (cell_any _ _ _ _ _).mono ?_; rintro e w' ⟨rfl, hd⟩) | (go_at_call 23; refine (sector_yes _ _ _ _ (by decide)).mono ?_; rintro e w' ⟨rfl, hd⟩) | (go_at_call 25; refine (local_yes _ _ _ _ (by decide)).mono ?_; rintro e w' ⟨rfl, hd⟩) | (go_at_call 19; refine (step_any _ _ _ _ _).mono ?_; rintro e w' ⟨rfl, hd⟩))
  go_ret
  exact ⟨rfl, by repeat (first | exact Dr.refl _ | assumption | refine Dr.add ?_ | refine Dr.trans ?_ (by assumption))⟩

def nearX (a _b : Int) : Int := if a.tmod 9 = 8 then withinF a 1 1024 else withinF a 1 50
def nearY (a b : Int) : Int := if a.tmod 9 = 8 then withinF b 1 1024 else withinF b 1 50
theorem near_may (a b : Int) : mayB (nearX a b) (nearY a b) = true := by
  have h1 := within_bd a 1 1024 (by omega)
  have h2 := within_bd b 1 1024 (by omega)
  have h3 := within_bd a 1 50 (by omega)
  have h4 := within_bd b 1 50 (by omega)
  unfold nearX nearY
  rw [mayB_iff]
  split <;> omega
set_option maxHeartbeats 400000 in
theorem near_is (a b : Int) (w : World) :
    Calls Try.prog 8 #[.int .i64 a, .int .i64 b] w fun e w' => e = .returned (.tuple #[.int .i64 (nearX a b), .int .i64 (nearY a b)]) ∧ Dr w w' := by
  by_cases h : a.tmod 9 = 8
  · have h' : (a.tmod 9 == 8) = true := by simp [h]
    have H : Hid (nearX a b = withinF a 1 1024 ∧ nearY a b = withinF b 1 1024) := hide (by unfold nearX nearY; simp [h])
    clear h
    go_enter Try.func8, Try.ntmps8
    go_wp2_with (go_at_call 9; refine (within_any _ _ _ _ (by omega) (by omega) (by omega)).mono ?_; rintro e w' ⟨rfl, hd⟩)
    go_ret2
    exact ⟨ret_int2 H.out.1.symm H.out.2.symm, by repeat (first | exact Dr.refl _ | assumption | refine Dr.add ?_ | refine Dr.trans ?_ (by assumption))⟩
  · have h' : (a.tmod 9 == 8) = false := by simp [h]
    have H : Hid (nearX a b = withinF a 1 50 ∧ nearY a b = withinF b 1 50) := hide (by unfold nearX nearY; simp [h])
    clear h
    go_enter Try.func8, Try.ntmps8
    go_wp2_with (go_at_call 9; refine (within_any _ _ _ _ (by omega) (by omega) (by omega)).mono ?_; rintro e w' ⟨rfl, hd⟩)
    go_ret2
    exact ⟨ret_int2 H.out.1.symm H.out.2.symm, by repeat (first | exact Dr.refl _ | assumption | refine Dr.add ?_ | refine Dr.trans ?_ (by assumption))⟩
theorem near_any (a b : Int) (w : World) :
    Calls Try.prog 8 #[.int .i64 a, .int .i64 b] w fun e w' => (∃ x y : Int, e = .returned (.tuple #[.int .i64 x, .int .i64 y]) ∧ mayB x y = true) ∧ Dr w w' :=
  (near_is a b w).mono fun _ _ h => ⟨⟨_, _, h.1, near_may a b⟩, h.2⟩

set_option maxHeartbeats 1000000 in
theorem whereBack_any (a b c : Int) (w : World) :
    Calls Try.prog 5 #[.int .i64 a, .int .i64 b, .int .i64 c] w fun e w' => e = .returned (.bool true) ∧ Dr w w' := by
  go_enter Try.func5, Try.ntmps5
  go_wp2_with fail
  refine (near_any a b _).mono ?_
  rintro e w' ⟨⟨x, y, rfl, hm⟩, hd⟩
  have hp := may_mul hm
  obtain ⟨m1, m2, m3, m4⟩ := (mayB_iff x y).1 hm
  obtain ⟨k, hk⟩ : ∃ k, k = withinF c 0 (x * y - 1) := ⟨_, rfl⟩
  have kb := within_bd c 0 (x * y - 1) (by omega)
  rw [← hk] at kb
  have HK := hide hk
  clear hk
  have hc : isCellB x y k = true := (isCellB_iff _ _ _).2 ⟨hm, by omega, by omega⟩
  obtain ⟨p1, p2, p3, p4, p5⟩ := place_bd hc
  obtain ⟨q1, q2, hs⟩ := sectorF_mod hc
  obtain ⟨l1, l2, _, _⟩ := localF_bd hc
  have sb := size_bd hs
  have lm := localB_mul hs
  have ec : cellF x y (k % x) (k / x) = k := by rw [cellF_yes hm p1 p2 p3 p4]; exact p5
  have eg := global_back hc
  have ab := across_bd m1 m2
  have eb : (x + 16 - 1) / 16 = acrossF x := by unfold acrossF; omega
  have es : sectorF x k = k / x / 16 * acrossF x + k % x / 16 := rfl
  have HS := hide es
  have mb := mul_bd (w := k / x / 16) (h := acrossF x) (W := 64) (H := 64) (by omega) (by omega) (by omega) (by omega)
  clear es p5 q1 q2
  go_wp2_with fail
  refine (within_any _ _ _ _ (by omega) (by omega) (by omega)).mono ?_
  rintro e w2 ⟨rfl, hd2⟩
  rw [← HK.out]
  go_wp2_with (first | (go_at_call 13; refine (place_yes _ _ _ _ hc).mono ?_; rintro e w' ⟨rfl, hd⟩) | (go_at_call 28; refine (size_yes _ _ _ _ hs).mono ?_; rintro e w' ⟨rfl, hd⟩) | (go_at_call 18; refine (cell_any _ _ _ _ _).mono ?_; rintro e w' ⟨rfl, hd⟩) | (go_at_call 23; refine (sector_yes _ _ _ _ hc).mono ?_; rintro e w' ⟨rfl, hd⟩) | (go_at_call 25; refine (local_yes _ _ _ _ hc).mono ?_; rintro e w' ⟨rfl, hd⟩) | (go_at_call 30; refine (global_yes _ _ _ _ _ hs (by assumption) (by assumption)).mono ?_; rintro e w' ⟨rfl, hd⟩) | (go_at_call 16; refine (told_any _).mono ?_; rintro e w' ⟨rfl, hd⟩))
  go_ret
  exact ⟨ret_bool (by rw [HS.out]; simp), by repeat (first | exact Dr.refl _ | assumption | refine Dr.add ?_ | refine Dr.trans ?_ (by assumption))⟩

end Go.Proofs.Ytleoiibeaaagjaa
