/- RingJumps answers true at every input, and RingNone; nothing that was there is written. -/
import Derived.Test.YtjnoklfmdckidaaQTold
namespace Go.Proofs.Ytjnoklfmdckidaa
open Go.RowKit
set_option maxRecDepth 20000

set_option maxHeartbeats 1000000 in
theorem ringJumps_any (x y : Int) (full : Bool) (w : World) :
    Calls Try.prog 6 #[.int .i64 x, .int .i64 y, .bool full] w fun e w' => e = .returned (.bool true) ∧ Gr w w' := by
  have b1 := within_bd x 0 34359738368 (by omega)
  have b2 := within_bd y 0 68719476736 (by omega)
  obtain ⟨f, hf⟩ : ∃ f, f = withinF x 0 34359738368 := ⟨_, rfl⟩
  obtain ⟨t, ht⟩ : ∃ t, t = withinF y 0 68719476736 := ⟨_, rfl⟩
  have F := hide hf
  have T := hide ht
  rw [← hf] at b1
  rw [← ht] at b2
  clear hf ht
  cases full
  · by_cases hm : f ≤ t
    · go_enter Try.func6, Try.ntmps6
      go_wp2_with fail
      refine (within_st _ _ _ _ (by omega) (by omega) (by omega)).mono ?_
      rintro e w1 ⟨rfl, rfl⟩
      rw [← F.out]
      go_wp2_with fail
      refine (within_st _ _ _ _ (by omega) (by omega) (by omega)).mono ?_
      rintro e w1 ⟨rfl, rfl⟩
      rw [← T.out]
      go_wp2_with fail
      refine (mnew (Gr.refl w1) f (by omega) (by omega)).mono ?_
      rintro e w2 ⟨p, rfl, hM⟩
      go_wp2_with fail
      refine (mjump hM t hm (by omega)).mono ?_
      clear hM
      rintro e w3 ⟨rfl, hM⟩
      go_wp2_with fail
      refine (told7_any _).mono ?_
      rintro e w4 ⟨rfl, hg⟩
      replace hM := hM.gr hg
      clear hg
      go_wp2_with fail
      refine (mat hM).mono ?_
      clear hM
      rintro e w5 ⟨rfl, hM⟩
      go_wp2_with fail
      refine (mput hM (t + 255) 1 (by omega) (by omega) (by simp) (by omega)).mono ?_
      clear hM
      rintro e w6 ⟨rfl, hM⟩
      go_wp2_with fail
      refine (mput_no hM (t + 256) 1 (by omega) (by omega)).mono ?_
      clear hM
      rintro e w7 ⟨rfl, hM⟩
      go_wp2_with fail
      refine (mlen hM).mono ?_
      clear hM
      rintro e w8 ⟨rfl, hM⟩
      go_wp2_with fail
      go_ret
      exact ⟨rfl, hM.g⟩
    · have hm2 : t < f := by omega
      have hd : decide (f ≤ t) = false := by simp; omega
      clear hm
      go_enter Try.func6, Try.ntmps6
      go_wp2_with fail
      refine (within_st _ _ _ _ (by omega) (by omega) (by omega)).mono ?_
      rintro e w1 ⟨rfl, rfl⟩
      rw [← F.out]
      go_wp2_with fail
      refine (within_st _ _ _ _ (by omega) (by omega) (by omega)).mono ?_
      rintro e w1 ⟨rfl, rfl⟩
      rw [← T.out]
      go_wp2_with fail
      refine (mnew (Gr.refl w1) f (by omega) (by omega)).mono ?_
      rintro e w2 ⟨p, rfl, hM⟩
      go_wp2_with fail
      refine (mjump_no hM t (by omega)).mono ?_
      clear hM
      rintro e w3 ⟨rfl, hM⟩
      go_wp2_with fail
      refine (told7_any _).mono ?_
      rintro e w4 ⟨rfl, hg⟩
      replace hM := hM.gr hg
      clear hg
      go_wp2_with fail
      refine (mat hM).mono ?_
      clear hM
      rintro e w5 ⟨rfl, hM⟩
      go_wp2_with fail
      refine (mjump_no hM 1099511627777 (by omega)).mono ?_
      clear hM
      rintro e w6 ⟨rfl, hM⟩
      go_wp2_with fail
      go_ret
      exact ⟨rfl, hM.g⟩
  · go_enter Try.func6, Try.ntmps6
    go_wp2_with fail
    refine (within_st _ _ _ _ (by omega) (by omega) (by omega)).mono ?_
    rintro e w1 ⟨rfl, rfl⟩
    rw [← F.out]
    go_wp2_with fail
    refine (within_st _ _ _ _ (by omega) (by omega) (by omega)).mono ?_
    rintro e w1 ⟨rfl, rfl⟩
    rw [← T.out]
    go_wp2_with fail
    refine (mnew (Gr.refl w1) f (by omega) (by omega)).mono ?_
    rintro e w2 ⟨p, rfl, hM⟩
    go_wp2_with fail
    refine (mput hM (f + 3) 9 (by omega) (by omega) (by simp) (by omega)).mono ?_
    clear hM
    rintro e w3 ⟨rfl, hM⟩
    go_wp2_with fail
    refine (mjump_no hM t (by simp)).mono ?_
    clear hM
    rintro e w4 ⟨rfl, hM⟩
    go_wp2_with fail
    refine (told7_any _).mono ?_
    rintro e w5 ⟨rfl, hg⟩
    replace hM := hM.gr hg
    clear hg
    go_wp2_with fail
    refine (mat hM).mono ?_
    clear hM
    rintro e w6 ⟨rfl, hM⟩
    go_wp2_with fail
    refine (mjump_no hM 1099511627777 (by omega)).mono ?_
    clear hM
    rintro e w7 ⟨rfl, hM⟩
    go_wp2_with fail
    go_ret
    exact ⟨rfl, hM.g⟩

theorem mnew2 {w0 w : World} (hg : Gr w0 w) (a : Int) (h0 : 0 ≤ a) (h1 : a ≤ 1099511627776) :
    Calls Try.prog 9 #[.int .i64 a] w fun e w' => (∃ p, e = .returned (.pointer (some ⟨p, 0, none⟩)) ∧ Mine w w' p a [] ∧ w.heap.size ≤ p) ∧ Gr w w' ∧ Gr w0 w' := by
  refine (mnew (Gr.refl w) a h0 h1).mono ?_
  rintro e w' ⟨p, rfl, hm⟩
  exact ⟨⟨p, rfl, hm, hm.ge⟩, hm.g, hg.trans hm.g⟩
set_option maxHeartbeats 1000000 in
theorem ringNone_any (x y : Int) (w : World) :
    Calls Try.prog 7 #[.int .i64 x, .int .i64 y] w fun e w' => e = .returned (.bool true) ∧ Gr w w' := by
  go_enter Try.func7, Try.ntmps7
  go_wp2_with fail
  refine (qpop_nil w).mono ?_
  rintro e w1 ⟨rfl, rfl⟩
  go_wp2_with fail
  refine (qnew_yes 0 w1 (by omega) (by omega)).mono ?_
  rintro e w2 ⟨rfl, hr1, hs1, hg1⟩
  have hlt1 : w1.heap.size < w2.heap.size := by omega
  clear hs1
  go_wp2_with fail
  refine (qnew_yes 0 w2 (by omega) (by omega)).mono ?_
  rintro e w3 ⟨rfl, hr2, -, hg2⟩
  replace hr1 := hr1.gr hg2
  go_wp2_with fail
  refine (qput_yes hr1 5 y (by omega) (by omega) (by simp) (by omega)).mono ?_
  rintro e w4 ⟨rfl, ⟨FP', hr3, -⟩, hk⟩
  replace hr2 := hr2.kp hk (fun b hb hc => by subst hb; omega)
  have hg := hk.gr (hg1.trans hg2) (fun b hb => by subst hb; exact Nat.le_refl _)
  clear hk hg1 hg2 hr1
  go_wp2_with fail
  refine (told7_any _).mono ?_
  rintro e w5 ⟨rfl, hg5⟩
  replace hg := hg.trans hg5
  replace hr2 := hr2.gr hg5
  replace hr3 := hr3.gr hg5
  clear hg5
  go_wp2_with fail
  refine (qput_nil _ _ _).mono ?_
  rintro e w6 ⟨rfl, rfl⟩
  go_wp2_with fail
  refine (qjump_nil _ _).mono ?_
  rintro e w6 ⟨rfl, rfl⟩
  go_wp2_with fail
  refine (qat_nil _).mono ?_
  rintro e w6 ⟨rfl, rfl⟩
  go_wp2_with fail
  refine (qlen_nil _).mono ?_
  rintro e w6 ⟨rfl, rfl⟩
  go_wp2_with fail
  refine (qlen_any hr2).mono ?_
  rintro e w6 ⟨rfl, rfl⟩
  go_wp2_with fail
  refine (qlen_any hr3).mono ?_
  rintro e w6 ⟨rfl, rfl⟩
  go_wp2_with fail
  go_ret
  exact ⟨rfl, hg⟩
end Go.Proofs.Ytjnoklfmdckidaa
