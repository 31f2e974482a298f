/- BorderSizes' walk: which cells are at a border is what the document says for any size: it answers true at every input; nothing that was there is written. -/
import Derived.Test.YtanihjgpdfploaaBTold11
import Derived.Test.YtanihjgpdfploaaBRCells11
namespace Go.Proofs.Ytanihjgpdfploaa
open Go.RowKit
set_option maxRecDepth 20000

set_option maxHeartbeats 4000000 in
theorem borderSizes_any (W H s : Int) (raw : Bool) (w : World) :
    Calls Try.prog 4 #[.int .i64 W, .int .i64 H, .int .i64 s, .bool raw] w fun e w' => e = .returned (.bool true) ∧ Gr w w' := by
  cases raw
  · have xb := within_bd W 1 90 (by omega)
    have yb := within_bd H 1 90 (by omega)
    have cb := count_bd (withinF W 1 90) (withinF H 1 90)
    go_enter Try.func4, Try.ntmps4
    go_wp2_with (first | (go_at_call_of 10 W; refine (within_st _ _ _ _ (by omega) (by omega) (by omega)).mono ?_; rintro e w1 ⟨rfl, hw1⟩; subst hw1) | (go_at_call_of 10 H; refine (within_st _ _ _ _ (by omega) (by omega) (by omega)).mono ?_; rintro e w2 ⟨rfl, hw2⟩; subst hw2) | (go_at_call 11; refine (rcount_any _ _ _).mono ?_; rintro e w3 ⟨rfl, hd3⟩) | (go_at_call_of 10 s; refine (within_st _ _ _ _ (by omega) (by omega) (by omega)).mono ?_; rintro e w4 ⟨rfl, hw4⟩; subst hw4))
    generalize withinF s (-1) (countF (withinF W 1 90) (withinF H 1 90)) = S at *
    generalize withinF W 1 90 = X at *
    generalize withinF H 1 90 = Y at *
    refine (bcells_any X Y S _).mono ?_
    rintro e w5 ⟨⟨v5, rfl, hown⟩, hg5⟩
    obtain ⟨a5, cp5, rfl, hil⟩ := IlS.slot (w := w5) hown
    have hg := hd3.gr.trans hg5
    clear hown hg5
    go_wp2_with fail
    refine (told11_any _).mono ?_
    rintro e w6 ⟨rfl, hg6⟩
    replace hg := hg.trans hg6
    replace hil := hil.gr hg6
    clear hg6
    go_wp2_with fail
    refine (rcells_any X Y S _).mono ?_
    rintro e w7 ⟨⟨v7, rfl, hown⟩, hg7⟩
    obtain ⟨a7, cp7, rfl, hil2⟩ := IlS.slot (w := w7) hown
    replace hg := hg.trans hg7
    replace hil := hil.gr hg7
    have hlen := cellsL_len X Y S
    clear hown hg7
    go_wp2_with fail
    refine (ints_same _ _ _ _ _ _ _ hil.sli hil2.sli (by omega)).mono ?_
    rintro e w8 ⟨rfl, hd8⟩
    go_wp2_with fail
    go_ret
    exact ⟨ret_bool (by simp), hg.trans hd8.gr⟩
  · go_enter Try.func4, Try.ntmps4
    go_wp2_with fail
    refine (bcells_any W H s _).mono ?_
    rintro e w5 ⟨⟨v5, rfl, hown⟩, hg5⟩
    obtain ⟨a5, cp5, rfl, hil⟩ := IlS.slot (w := w5) hown
    have hg := (Gr.refl w).trans hg5
    clear hown hg5
    cases hm : mayB W H
    · have hnil : cellsL W H s = [] := by unfold cellsL; rw [if_neg (by simp [isSectorB, hm])]
      rw [hnil] at hil ⊢
      go_wp2_with (go_at_call 25; refine (rmay_any _ _ _).mono ?_; rintro e w6 ⟨rfl, hd6⟩; rw [hm])
      refine (told11_any _).mono ?_
      rintro e w7 ⟨rfl, hg7⟩
      go_wp2_with fail
      go_ret
      exact ⟨ret_bool (by simp), (hg.trans hd6.gr).trans hg7⟩
    · go_wp2_with (go_at_call 25; refine (rmay_any _ _ _).mono ?_; rintro e w6 ⟨rfl, hd6⟩; rw [hm])
      replace hg := hg.trans hd6.gr
      replace hil := hil.gr hd6.gr
      clear hd6
      refine (told11_any _).mono ?_
      rintro e w9 ⟨rfl, hg6⟩
      replace hg := hg.trans hg6
      replace hil := hil.gr hg6
      clear hg6
      go_wp2_with fail
      refine (rcells_any W H s _).mono ?_
      rintro e w7 ⟨⟨v7, rfl, hown⟩, hg7⟩
      obtain ⟨a7, cp7, rfl, hil2⟩ := IlS.slot (w := w7) hown
      replace hg := hg.trans hg7
      replace hil := hil.gr hg7
      have hlen := cellsL_len (W) (H) (s)
      clear hown hg7
      go_wp2_with fail
      refine (ints_same _ _ _ _ _ _ _ hil.sli hil2.sli (by omega)).mono ?_
      rintro e w8 ⟨rfl, hd8⟩
      go_wp2_with fail
      go_ret
      exact ⟨ret_bool (by simp), hg.trans hd8.gr⟩
end Go.Proofs.Ytanihjgpdfploaa
