/- WhereParts' walk: it answers true at every input. -/
import Derived.Test.YtleoiibeaaagjaaWLaws
import Derived.Test.YtleoiibeaaagjaaWRef2
namespace Go.Proofs.Ytleoiibeaaagjaa
open Go.RowKit

set_option maxHeartbeats 1000000 in
set_option maxRecDepth 100000 in
theorem whereParts_any (a b s0 l0' : Int) (raw : Bool) (w : World) :
    Calls Try.prog 4 #[.int .i64 a, .int .i64 b, .int .i64 s0, .int .i64 l0', .bool raw] w fun e w' => e = .returned (.bool true) ∧ Dr w w' := by
  cases raw
  · go_enter Try.func4, Try.ntmps4
    go_wp2_with fail
    refine (near_any a b _).mono ?_
    rintro e w1 ⟨⟨x, y, rfl, hm⟩, hd1⟩
    have cb := count_bd x y
    obtain ⟨s, hs⟩ : ∃ v, v = withinF s0 (-1) (countF x y) := ⟨_, rfl⟩
    have sb := within_bd s0 (-1) (countF x y) (by omega)
    rw [← hs] at sb
    have Hs := hide hs
    clear hs
    obtain ⟨l, hl⟩ : ∃ v, v = withinF l0' (-1) (256) := ⟨_, rfl⟩
    have lb := within_bd l0' (-1) (256) (by omega)
    rw [← hl] at lb
    have Hl := hide hl
    clear hl
    go_wp2_with fail
    refine (rcount_any _ _ _).mono ?_
    rintro e w2 ⟨rfl, hd2⟩
    go_wp2_with fail
    refine (within_any _ _ _ _ (by omega) (by omega) (by omega)).mono ?_
    rintro e wv3 ⟨rfl, hdv3⟩
    rw [← Hs.out]
    go_wp2_with fail
    refine (within_any _ _ _ _ (by omega) (by omega) (by omega)).mono ?_
    rintro e wv4 ⟨rfl, hdv4⟩
    rw [← Hl.out]
    cases hs : isSectorB x y s
    · go_wp2_with (first | (go_at_call 28; refine (size_no _ _ _ _ hs).mono ?_; rintro e w' ⟨rfl, hd⟩) | (go_at_call 29; refine (rsize_no _ _ _ _ hs).mono ?_; rintro e w' ⟨rfl, hd⟩) | (go_at_call 30; refine (global_none _ _ _ _ _ hs).mono ?_; rintro e w' ⟨rfl, hd⟩) | (go_at_call 31; refine (rglobal_none _ _ _ _ _ hs).mono ?_; rintro e w' ⟨rfl, hd⟩) | (go_at_call 16; refine (told_any _).mono ?_; rintro e w' ⟨rfl, hd⟩))
      go_ret
      exact ⟨ret_bool (by simp), by repeat (first | exact Dr.refl _ | assumption | refine Dr.add ?_ | refine Dr.trans ?_ (by assumption))⟩
    · by_cases hl : l < 0 ∨ twF x s * thF x y s ≤ l
      · have HL := hide hl
        clear hl
        go_wp2_with (first | (go_at_call 28; refine (size_yes _ _ _ _ hs).mono ?_; rintro e w' ⟨rfl, hd⟩) | (go_at_call 29; refine (rsize_yes _ _ _ _ hs).mono ?_; rintro e w' ⟨rfl, hd⟩) | (go_at_call 30; refine (global_no _ _ _ _ _ hs HL.out).mono ?_; rintro e w' ⟨rfl, hd⟩) | (go_at_call 31; refine (rglobal_no _ _ _ _ _ hs HL.out).mono ?_; rintro e w' ⟨rfl, hd⟩) | (go_at_call 16; refine (told_any _).mono ?_; rintro e w' ⟨rfl, hd⟩))
        go_ret
        exact ⟨ret_bool (by simp), by repeat (first | exact Dr.refl _ | assumption | refine Dr.add ?_ | refine Dr.trans ?_ (by assumption))⟩
      · have l0 : 0 ≤ l := by omega
        have l1 : l < twF x s * thF x y s := by omega
        clear hl
        go_wp2_with (first | (go_at_call 28; refine (size_yes _ _ _ _ hs).mono ?_; rintro e w' ⟨rfl, hd⟩) | (go_at_call 29; refine (rsize_yes _ _ _ _ hs).mono ?_; rintro e w' ⟨rfl, hd⟩) | (go_at_call 30; refine (global_yes _ _ _ _ _ hs l0 l1).mono ?_; rintro e w' ⟨rfl, hd⟩) | (go_at_call 31; refine (rglobal_yes _ _ _ _ _ hs l0 l1).mono ?_; rintro e w' ⟨rfl, hd⟩) | (go_at_call 16; refine (told_any _).mono ?_; rintro e w' ⟨rfl, hd⟩))
        go_ret
        exact ⟨ret_bool (by simp), by repeat (first | exact Dr.refl _ | assumption | refine Dr.add ?_ | refine Dr.trans ?_ (by assumption))⟩
  · go_enter Try.func4, Try.ntmps4
    cases hs : isSectorB a b s0
    · go_wp2_with (first | (go_at_call 28; refine (size_no _ _ _ _ hs).mono ?_; rintro e w' ⟨rfl, hd⟩) | (go_at_call 29; refine (rsize_no _ _ _ _ hs).mono ?_; rintro e w' ⟨rfl, hd⟩) | (go_at_call 30; refine (global_none _ _ _ _ _ hs).mono ?_; rintro e w' ⟨rfl, hd⟩) | (go_at_call 31; refine (rglobal_none _ _ _ _ _ hs).mono ?_; rintro e w' ⟨rfl, hd⟩) | (go_at_call 16; refine (told_any _).mono ?_; rintro e w' ⟨rfl, hd⟩))
      go_ret
      exact ⟨ret_bool (by simp), by repeat (first | exact Dr.refl _ | assumption | refine Dr.add ?_ | refine Dr.trans ?_ (by assumption))⟩
    · by_cases hl : l0' < 0 ∨ twF a s0 * thF a b s0 ≤ l0'
      · have HL := hide hl
        clear hl
        go_wp2_with (first | (go_at_call 28; refine (size_yes _ _ _ _ hs).mono ?_; rintro e w' ⟨rfl, hd⟩) | (go_at_call 29; refine (rsize_yes _ _ _ _ hs).mono ?_; rintro e w' ⟨rfl, hd⟩) | (go_at_call 30; refine (global_no _ _ _ _ _ hs HL.out).mono ?_; rintro e w' ⟨rfl, hd⟩) | (go_at_call 31; refine (rglobal_no _ _ _ _ _ hs HL.out).mono ?_; rintro e w' ⟨rfl, hd⟩) | (go_at_call 16; refine (told_any _).mono ?_; rintro e w' ⟨rfl, hd⟩))
        go_ret
        exact ⟨ret_bool (by simp), by repeat (first | exact Dr.refl _ | assumption | refine Dr.add ?_ | refine Dr.trans ?_ (by assumption))⟩
      · have l0 : 0 ≤ l0' := by omega
        have l1 : l0' < twF a s0 * thF a b s0 := by omega
        clear hl
        go_wp2_with (first | (go_at_call 28; refine (size_yes _ _ _ _ hs).mono ?_; rintro e w' ⟨rfl, hd⟩) | (go_at_call 29; refine (rsize_yes _ _ _ _ hs).mono ?_; rintro e w' ⟨rfl, hd⟩) | (go_at_call 30; refine (global_yes _ _ _ _ _ hs l0 l1).mono ?_; rintro e w' ⟨rfl, hd⟩) | (go_at_call 31; refine (rglobal_yes _ _ _ _ _ hs l0 l1).mono ?_; rintro e w' ⟨rfl, hd⟩) | (go_at_call 16; refine (told_any _).mono ?_; rintro e w' ⟨rfl, hd⟩))
        go_ret
        exact ⟨ret_bool (by simp), by repeat (first | exact Dr.refl _ | assumption | refine Dr.add ?_ | refine Dr.trans ?_ (by assumption))⟩

end Go.Proofs.Ytleoiibeaaagjaa
