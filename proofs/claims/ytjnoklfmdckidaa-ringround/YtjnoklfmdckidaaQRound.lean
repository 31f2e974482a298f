/- RingRound answers true at every input; nothing that was there is written. -/
import Derived.Test.YtjnoklfmdckidaaQTold
namespace Go.Proofs.Ytjnoklfmdckidaa
open Go.RowKit
set_option maxRecDepth 20000

set_option maxHeartbeats 1000000 in
theorem ringRound_any (x : Int) (al : Option Addr) (n cap : Nat) (l : Nat → Int) (w : World) (h : SlI w al n l) (hn : n ≤ maxLen) :
    Calls Try.prog 5 #[.int .i64 x, .slice al n cap] w fun e w' => e = .returned (.bool true) ∧ Gr w w' := by
  unfold maxLen at hn
  have b1 := within_bd x 0 1073741824 (by omega)
  obtain ⟨f, hf⟩ : ∃ f, f = withinF x 0 1073741824 := ⟨_, rfl⟩
  have F := hide hf
  rw [← hf] at b1
  clear hf
  go_enter Try.func5, Try.ntmps5
  go_wp2_with fail
  refine (within_st _ _ _ _ (by omega) (by omega) (by omega)).mono ?_
  rintro e w1 ⟨rfl, rfl⟩
  rw [← F.out]
  go_wp2_with fail
  refine (mnew (Gr.refl w1) f (by omega) (by omega)).mono ?_
  rintro e w2 ⟨p, rfl, hM⟩
  go_wp2_with fail
  refine (mput hM f 0 (by omega) (by omega) (by simp) (by omega)).mono ?_
  clear hM
  rintro e w3 ⟨rfl, hM⟩
  go_wp2_with fail
  refine (mput hM (f + 255) (-1) (by omega) (by omega) (by simp) (by omega)).mono ?_
  clear hM
  rintro e w4 ⟨rfl, hM⟩
  go_wp2_with fail
  go_loopw [7, 8] (fun t i u => ∃ (k : Nat) (a : Int) (L : List (Int × Int)), (k ≤ 200 ∧ k ≤ n) ∧ i = .int .i64 k ∧ t = .int .i64 a ∧ (f ≤ a ∧ a ≤ f + 255 * k) ∧ L.length = 2 ∧ Mine w1 u p a L) (fun _ i _ => 200 - (intOf i).toNat)
  case atStart => exact ⟨0, f, _, ⟨by omega, by omega⟩, rfl, rfl, ⟨by omega, by omega⟩, rfl, hM⟩
  case round =>
    clear hM
    obtain ⟨k, a, L, ⟨hk1, hk2⟩, rfl, rfl, ⟨ha1, ha2⟩, hL, hM⟩ := hrel
    by_cases hlt : k < n ∧ k < 200
    · obtain ⟨t1, t2⟩ := hlt
      obtain ⟨b, o, rfl, hb, hc⟩ := h.at (by omega)
      obtain ⟨m, k0, x0, hfm⟩ := exists_first L (by intro e; rw [e] at hL; cases hL)
      have hnr : a ≤ k0 ∧ k0 ≤ a + 255 := by
        obtain ⟨FP, hR, -, -⟩ := hM
        have := hR.near _ hfm.mem
        simpa using this
      have hst := within_bd (l k) 0 255 (by omega)
      have T := hide hL
      have HE : Hid ((L.eraseIdx m).length = 1) := hide (by rw [erase_len hfm, hL])
      have HC := hide hc
      have t3 : (k : Int) < (n : Int) := by omega
      have t4 : (k : Int) < 200 := by omega
      clear hL hc
      go_wp2_with fail
      refine (mpop hM (by omega) hfm (by have := T.out; omega)).mono ?_
      clear hM
      rintro e w5 ⟨rfl, hM⟩
      have hck := cell_gr (HC.out k t1) hM.g
      go_wp2_with fail
      refine (within_st _ _ _ _ (by omega) (by omega) (by omega)).mono ?_
      rintro e w6 ⟨rfl, rfl⟩
      generalize withinF (l k) 0 255 = s at *
      have hge : decide (k0 < a) = false := by simp; omega
      go_wp2_with fail
      refine (mput_no hM (k0 + 256) k (by omega) (by omega)).mono ?_
      clear hM hck
      rintro e w7 ⟨rfl, hM⟩
      go_wp2_with fail
      refine (mput_no hM (k0 - 1) k (by omega) (by omega)).mono ?_
      clear hM
      rintro e w8 ⟨rfl, hM⟩
      go_wp2_with fail
      refine (mput hM (k0 + s) k (by omega) (by omega) (by have := HE.out; omega) (by omega)).mono ?_
      clear hM
      rintro e w9 ⟨rfl, hM⟩
      have hl2 : (L.eraseIdx m ++ [(k0 + s, (k : Int))]).length = 2 := by rw [List.length_append, HE.out]; rfl
      go_wp2_with fail
      refine (mlen hM).mono ?_
      clear hM
      rintro e w10 ⟨rfl, hM⟩
      rw [hl2]
      go_wp2_with fail
      go_roundw
      case rel => exact ⟨k + 1, k0, _, ⟨by omega, by omega⟩, by go_num, rfl, ⟨by omega, by omega⟩, hl2, hM⟩
      case measure => simp [intOf]; omega
    · have T := hide hL
      have t5 : ¬ ((k : Int) < (n : Int) ∧ (k : Int) < 200) := by omega
      by_cases t1 : k < n
      · have t3 : (k : Int) < (n : Int) := by omega
        have t4 : ¬ (k : Int) < 200 := by omega
        clear t5 hlt hL
        go_wp2_with fail
        refine (told7_any _).mono ?_
        rintro e w5 ⟨rfl, hg⟩
        replace hM := hM.gr hg
        clear hg
        go_wp2_with fail
        refine (mlen hM).mono ?_
        clear hM
        rintro e w6 ⟨rfl, hM⟩
        rw [T.out]
        go_wp2_with fail
        refine (mat hM).mono ?_
        clear hM
        rintro e w7 ⟨rfl, hM⟩
        go_wp2_with fail
        go_ret
        exact ⟨rfl, hM.g⟩
      · have t3 : ¬ (k : Int) < (n : Int) := by omega
        clear t5 hlt hL
        go_wp2_with fail
        refine (told7_any _).mono ?_
        rintro e w5 ⟨rfl, hg⟩
        replace hM := hM.gr hg
        clear hg
        go_wp2_with fail
        refine (mlen hM).mono ?_
        clear hM
        rintro e w6 ⟨rfl, hM⟩
        rw [T.out]
        go_wp2_with fail
        refine (mat hM).mono ?_
        clear hM
        rintro e w7 ⟨rfl, hM⟩
        go_wp2_with fail
        go_ret
        exact ⟨rfl, hM.g⟩
end Go.Proofs.Ytjnoklfmdckidaa
