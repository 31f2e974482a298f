/- What Size, Sector, Local, Global, Step, Side, Back of package where answer: the plain functions of WMath; nothing is written. -/
import Derived.Test.YtmejpildmapfiaaWWalks
namespace Go.Proofs.Ytmejpildmapfiaa
open Go.RowKit

set_option maxHeartbeats 400000 in
theorem corner_any (a s : Int) (w : World) (h1 : 1 ≤ a) (h2 : a ≤ 1024) (h3 : 0 ≤ s) (h4 : s ≤ 4096) :
    Calls Try.prog 51 #[.int .i64 a, .int .i64 s] w fun e w' => e = .returned (.tuple #[.int .i64 (s % acrossF a * 16), .int .i64 (s / acrossF a * 16)]) ∧ Dr w w' := by
  have hb := across_bd h1 h2
  have hz : (acrossF a == 0) = false := by simp; omega
  have b1 := Int.emod_nonneg s (show acrossF a ≠ 0 by omega)
  have b2 := Int.emod_lt_of_pos s (show 0 < acrossF a by omega)
  have b3 := Int.ediv_nonneg h3 (show 0 ≤ acrossF a by omega)
  have b4 := Int.ediv_le_self (acrossF a) h3
  go_enter Try.func51, Try.ntmps51
  go_wp2_with (go_at_call 46; refine (spans_any _ _ h1 h2).mono ?_; rintro e w' ⟨rfl, hd⟩)
  go_quiet (fail)
  go_wp2
  go_ret2
  exact ⟨rfl, by repeat (first | exact Dr.refl _ | assumption | refine Dr.add ?_ | refine Dr.trans ?_ (by assumption))⟩

set_option maxHeartbeats 400000 in
theorem size_yes (a b s : Int) (w : World) (hs : isSectorB a b s = true) :
    Calls Try.prog 38 #[.int .i64 a, .int .i64 b, .int .i64 s] w fun e w' => e = .returned (.tuple #[.int .i64 (twF a s), .int .i64 (thF a b s)]) ∧ Dr w w' := by
  obtain ⟨hm, s1, s2⟩ := (isSectorB_iff a b s).1 hs
  have sb := sector_bd hs
  have hp := across_mul hm
  obtain ⟨m1, m2, m3, m4⟩ := (mayB_iff a b).1 hm
  have hb := across_bd m1 m2
  have hb' := across_bd m3 m4
  have s3 : s ≤ 4096 := by omega
  go_enter Try.func38, Try.ntmps38
  go_wp2_with (first | (go_at_call 50; refine (isSector_any _ _ _ _).mono ?_; rintro e w' ⟨rfl, hd⟩) | (go_at_call 51; refine (corner_any _ _ _ (by assumption) (by assumption) (by assumption) (by assumption)).mono ?_; rintro e w' ⟨rfl, hd⟩))
  all_goals
    go_ret2
    exact ⟨ret_int2 (by unfold twF; omega) (by unfold thF; omega), by repeat (first | exact Dr.refl _ | assumption | refine Dr.add ?_ | refine Dr.trans ?_ (by assumption))⟩

set_option maxHeartbeats 400000 in
theorem size_no (a b s : Int) (w : World) (hs : isSectorB a b s = false) :
    Calls Try.prog 38 #[.int .i64 a, .int .i64 b, .int .i64 s] w fun e w' => e = .returned (.tuple #[.int .i64 0, .int .i64 0]) ∧ Dr w w' := by
  go_enter Try.func38, Try.ntmps38
  go_wp2_with (go_at_call 50; refine (isSector_any _ _ _ _).mono ?_; rintro e w' ⟨rfl, hd⟩)
  go_ret2
  exact ⟨rfl, by repeat (first | exact Dr.refl _ | assumption | refine Dr.add ?_ | refine Dr.trans ?_ (by assumption))⟩

set_option maxHeartbeats 400000 in
theorem sector_yes (a b c : Int) (w : World) (hc : isCellB a b c = true) :
    Calls Try.prog 36 #[.int .i64 a, .int .i64 b, .int .i64 c] w fun e w' => e = .returned (.int .i64 (sectorF a c)) ∧ Dr w w' := by
  obtain ⟨hm, c1, c2⟩ := (isCellB_iff a b c).1 hc
  obtain ⟨m1, m2, m3, m4⟩ := (mayB_iff a b).1 hm
  have hb := across_bd m1 m2
  have pb := place_bd hc
  have mb := mul_bd (w := c / a / 16) (h := acrossF a) (W := 64) (H := 64) (by omega) (by omega) (by omega) (by omega)
  go_enter Try.func36, Try.ntmps36
  go_wp2_with (first | (go_at_call 48; refine (isCell_any _ _ _ _).mono ?_; rintro e w' ⟨rfl, hd⟩) | (go_at_call 49; refine (place_yes _ _ _ _ hc).mono ?_; rintro e w' ⟨rfl, hd⟩) | (go_at_call 46; refine (spans_any _ _ (by assumption) (by assumption)).mono ?_; rintro e w' ⟨rfl, hd⟩))
  go_ret
  exact ⟨rfl, by repeat (first | exact Dr.refl _ | assumption | refine Dr.add ?_ | refine Dr.trans ?_ (by assumption))⟩

set_option maxHeartbeats 400000 in
theorem sector_no (a b c : Int) (w : World) (hc : isCellB a b c = false) :
    Calls Try.prog 36 #[.int .i64 a, .int .i64 b, .int .i64 c] w fun e w' => e = .returned (.int .i64 (-1)) ∧ Dr w w' := by
  go_enter Try.func36, Try.ntmps36
  go_wp2_with (go_at_call 48; refine (isCell_any _ _ _ _).mono ?_; rintro e w' ⟨rfl, hd⟩)
  go_ret
  exact ⟨rfl, by repeat (first | exact Dr.refl _ | assumption | refine Dr.add ?_ | refine Dr.trans ?_ (by assumption))⟩

theorem localB_mul {a b s : Int} (hs : isSectorB a b s = true) : 1 ≤ twF a s * thF a b s ∧ twF a s * thF a b s ≤ 256 := by
  have sb := size_bd hs
  have e := mul_bd (w := twF a s) (h := thF a b s) (W := 16) (H := 16) (by omega) (by omega) (by omega) (by omega)
  have f := Int.mul_le_mul sb.1 sb.2.2.1 (by omega) (by omega : (0 : Int) ≤ twF a s)
  omega

set_option maxHeartbeats 1000000 in
theorem global_yes (a b s l : Int) (w : World) (hs : isSectorB a b s = true) (h0 : 0 ≤ l) (h1 : l < twF a s * thF a b s) :
    Calls Try.prog 39 #[.int .i64 a, .int .i64 b, .int .i64 s, .int .i64 l] w fun e w' => e = .returned (.int .i64 (globalF a s l)) ∧ Dr w w' := by
  obtain ⟨hm, s1, s2⟩ := (isSectorB_iff a b s).1 hs
  have hp := across_mul hm
  have sb := size_bd hs
  have tb := sector_bd hs
  have lb := local_bd hs h0 h1
  have lm := localB_mul hs
  obtain ⟨m1, m2, m3, m4⟩ := (mayB_iff a b).1 hm
  have hz : ¬ twF a s = 0 := by omega
  have s3 : s ≤ 4096 := by omega
  have H : Hid (cellF a b (s % acrossF a * 16 + l % twF a s) (s / acrossF a * 16 + l / twF a s) = globalF a s l) :=
    hide (by rw [cellF_yes hm (by omega) (by omega) (by omega) (by omega)]; rfl)
  have h0' : ¬ l < 0 := by omega
  have h1' : ¬ twF a s * thF a b s ≤ l := by omega
  obtain ⟨l1, l2, l3, l4, l5⟩ := lb
  obtain ⟨t1, t2, t3, t4, t5⟩ := tb
  clear l5 t5
  obtain ⟨u1, u2, u3, u4, u5, u6⟩ := sb
  go_enter Try.func39, Try.ntmps39
  go_wp2_with (first | (go_at_call 38; refine (size_yes _ _ _ _ hs).mono ?_; rintro e w' ⟨rfl, hd⟩) | (go_at_call 51; refine (corner_any _ _ _ (by assumption) (by assumption) (by assumption) (by assumption)).mono ?_; rintro e w' ⟨rfl, hd⟩))
  have l6 : l ≤ 256 := by omega
  clear h1 lm hp s2 h1' hs hm
  go_quiet ((go_at_call 52; refine Dr.quiet (cell_any _ _ _ _ _)))
  go_wp2
  go_ret
  exact ⟨ret_int H.out, by repeat (first | exact Dr.refl _ | assumption | refine Dr.add ?_ | refine Dr.trans ?_ (by assumption))⟩

set_option maxHeartbeats 1000000 in
theorem global_no (a b s l : Int) (w : World) (hs : isSectorB a b s = true) (h : l < 0 ∨ twF a s * thF a b s ≤ l) :
    Calls Try.prog 39 #[.int .i64 a, .int .i64 b, .int .i64 s, .int .i64 l] w fun e w' => e = .returned (.int .i64 (-1)) ∧ Dr w w' := by
  have sb := size_bd hs
  have lm := localB_mul hs
  rcases h with h | h
  · go_enter Try.func39, Try.ntmps39
    go_wp2_with (go_at_call 38; refine (size_yes _ _ _ _ hs).mono ?_; rintro e w' ⟨rfl, hd⟩)
    go_ret
    exact ⟨rfl, by repeat (first | exact Dr.refl _ | assumption | refine Dr.add ?_ | refine Dr.trans ?_ (by assumption))⟩
  · have h' : ¬ l < 0 := by omega
    go_enter Try.func39, Try.ntmps39
    go_wp2_with (go_at_call 38; refine (size_yes _ _ _ _ hs).mono ?_; rintro e w' ⟨rfl, hd⟩)
    go_ret
    exact ⟨rfl, by repeat (first | exact Dr.refl _ | assumption | refine Dr.add ?_ | refine Dr.trans ?_ (by assumption))⟩

set_option maxHeartbeats 1000000 in
theorem global_none (a b s l : Int) (w : World) (hs : isSectorB a b s = false) :
    Calls Try.prog 39 #[.int .i64 a, .int .i64 b, .int .i64 s, .int .i64 l] w fun e w' => e = .returned (.int .i64 (-1)) ∧ Dr w w' := by
  by_cases h : l < 0
  · go_enter Try.func39, Try.ntmps39
    go_wp2_with (go_at_call 38; refine (size_no _ _ _ _ hs).mono ?_; rintro e w' ⟨rfl, hd⟩)
    go_ret
    exact ⟨rfl, by repeat (first | exact Dr.refl _ | assumption | refine Dr.add ?_ | refine Dr.trans ?_ (by assumption))⟩
  · have h' : 0 ≤ l := by omega
    go_enter Try.func39, Try.ntmps39
    go_wp2_with (go_at_call 38; refine (size_no _ _ _ _ hs).mono ?_; rintro e w' ⟨rfl, hd⟩)
    go_ret
    exact ⟨rfl, by repeat (first | exact Dr.refl _ | assumption | refine Dr.add ?_ | refine Dr.trans ?_ (by assumption))⟩

end Go.Proofs.Ytmejpildmapfiaa
