/- TileCounts' walk: it answers true at every input; nothing that was there is written. -/
import Derived.Test.YtafghafdapiadaaTMates
import Derived.Test.YtafghafdapiadaaTCountMath
namespace Go.Proofs.Ytafghafdapiadaa
open Go.RowKit

theorem tri_at (w : World) (W H : Int) (v : Value) : (w.alloc (.cells #[.int .i64 W, .int .i64 H, v] 24)).cell? ⟨w.heap.size, 0, none⟩ = some (.int .i64 W) ∧ (w.alloc (.cells #[.int .i64 W, .int .i64 H, v] 24)).cell? ⟨w.heap.size, 1, none⟩ = some (.int .i64 H) ∧ (w.alloc (.cells #[.int .i64 W, .int .i64 H, v] 24)).cell? ⟨w.heap.size, 2, none⟩ = some v :=
  ⟨(tri_alloc w _ _ _ _).cell (i := 0) (by omega), (tri_alloc w _ _ _ _).cell (i := 1) (by omega), (tri_alloc w _ _ _ _).cell (i := 2) (by omega)⟩

set_option maxHeartbeats 4000000 in
theorem tileCounts_any (ad : Option Addr) (n cap : Nat) (f : Nat → Int) (x y l0 : Int) (w : World) (h : Sl w ad n f) (hn : n ≤ maxLen) :
    Calls Try.prog 7 #[.slice ad n cap, .int .i64 x, .int .i64 y, .int .i64 l0] w fun e w' => e = .returned (.bool true) ∧ Gr w w' := by
  go_enter Try.func7, Try.ntmps7
  go_wp2_with fail
  refine (madeTile_any _ _ _ _ _ f _ h hn).mono ?_
  rintro e w1 ⟨⟨g, c', N, rfl, hN, hown⟩, hg1⟩
  have hm := made_may h.byte hN
  generalize withinF x 1 16 = W at *
  generalize withinF y 1 16 = H at *
  generalize madeF n f = F at *
  obtain ⟨-, -, -, -, hsl⟩ := hown.sl
  obtain ⟨n1, n2, -, -⟩ := mayTB_n hm
  obtain ⟨l, hl⟩ : ∃ l : Nat, (l : Int) = withinF l0 0 ((N : Int) - 1) := by
    have lb := within_bd l0 0 ((N : Int) - 1) (by omega)
    exact ⟨(withinF l0 0 ((N : Int) - 1)).toNat, by omega⟩
  have lb : l < N := by
    have lb := within_bd l0 0 ((N : Int) - 1) (by omega)
    omega
  have HL := hide hl
  clear hl
  clear hown hN
  go_wp2_with fail
  refine (within_st _ _ _ _ (by omega) (by omega) (by omega)).mono ?_
  rintro e w2 ⟨rfl, hw2⟩
  subst hw2
  rw [← HL.out]
  obtain ⟨c1, c2, c3⟩ := tri_at w1 W H (.slice (some ⟨g, 0, none⟩) N c')
  have hg2 : Gr w1 (w1.alloc (.cells #[.int .i64 W, .int .i64 H, .slice (some ⟨g, 0, none⟩) N c'] 24)) := (by repeat (first | exact Gr.refl _ | assumption | exact Dr.gr (by assumption) | refine Gr.alloc ?_ _ | refine Gr.drewN ?_ _ | refine Gr.drew ?_ | refine Gr.trans ?_ (by assumption) | refine Gr.trans ?_ (Dr.gr (by assumption))))
  generalize w1.alloc (.cells #[.int .i64 W, .int .i64 H, .slice (some ⟨g, 0, none⟩) N c'] 24) = u0 at *
  generalize w1.heap.size = B at *
  have hsl0 := hsl.gr hg2
  have hgw := hg1.trans hg2
  clear hg2 hsl hg1
  go_wp2_with fail
  go_loopw [11, 12] (fun v i u => ∃ k : Nat, k ≤ N ∧ i = .int .i64 k ∧ v = .int .i64 ((k : Int) - (openL k F).length) ∧ Gr u0 u) (fun _ i _ => N - (intOf i).toNat)
  case atStart => exact ⟨0, Nat.zero_le _, rfl, by simp [openL], Gr.refl _⟩
  case round =>
    obtain ⟨k, hk, rfl, rfl, hgr⟩ := hrel
    have d1 := cell_gr c1 hgr
    have d2 := cell_gr c2 hgr
    have d3 := cell_gr c3 hgr
    have ol := openL_le k F
    by_cases hlt : k < N
    · have hloc : isLocB W H N F k = true := (isLocB_iff _ _ _ _ _).2 ⟨hm, by omega, by omega⟩
      have os := openL_succ k F
      by_cases hF : F k = 255
      · have hF' : (F k == 255) = true := by simp [hF]
        rw [if_pos hF] at os
        have HO := hide os
        clear os hF
        go_wp2_with (go_at_call 14; refine (at_yes _ _ _ _ _ F _ _ (hsl0.gr hgr) hloc).mono ?_; rintro e w3 ⟨rfl, hg3⟩)
        go_roundw
        case rel => exact ⟨k + 1, by omega, by go_num, by have := HO.out; go_num, hgr.trans hg3⟩
        case measure => simp [intOf]; omega
      · have hF' : (F k == 255) = false := by simp [hF]
        rw [if_neg hF] at os
        have HO := hide os
        clear os hF
        go_wp2_with (go_at_call 14; refine (at_yes _ _ _ _ _ F _ _ (hsl0.gr hgr) hloc).mono ?_; rintro e w3 ⟨rfl, hg3⟩)
        go_roundw
        case rel => exact ⟨k + 1, by omega, by go_num, by have := HO.out; go_num, hgr.trans hg3⟩
        case measure => simp [intOf]; omega
    · have hkN : k = N := by omega
      subst hkN
      have hlocl : isLocB W H k F l = true := (isLocB_iff _ _ _ _ _).2 ⟨hm, by omega, by omega⟩
      obtain ⟨G1, hG1⟩ : ∃ G, G = upd F l 255 := ⟨_, rfl⟩
      obtain ⟨G2, hG2⟩ : ∃ G, G = upd G1 l 1 := ⟨_, rfl⟩
      have hm1 : mayTB W H k G1 = true := by rw [hG1]; exact mayTB_upd hm l (by omega)
      have hm2 : mayTB W H k G2 = true := by rw [hG2]; exact mayTB_upd hm1 l (by omega)
      have hloc1 : isLocB W H k G1 l = true := (isLocB_iff _ _ _ _ _).2 ⟨hm1, by omega, by omega⟩
      have u1 := openL_upd F 255 lb
      have u2 := openL_upd G1 1 lb
      have g1l : G1 l = 255 := by rw [hG1]; simp [upd]
      rw [← hG1, if_pos rfl] at u1
      rw [← hG2, if_pos g1l, if_neg (by omega)] at u2
      have hdis : (openL k F).length = (openL k G2).length ∨ (openL k F).length = (openL k G1).length := by
        split at u1 <;> omega
      have hno : ∀ j, j < (openL k G1).length → openF k G1 j ≠ l := by
        intro j hj e
        obtain ⟨z, hz, _, hz2⟩ := openF_mem hj
        rw [e] at hz
        have : z = l := by omega
        rw [this] at hz2
        exact hz2 g1l
      have hup : ∀ j, 0 < j → j < (openL k G1).length → openF k G1 (j - 1) < openF k G1 j := fun j h0 hj => openF_lt (by omega) hj
      have la := openL_le k F
      have lb1 := openL_le k G1
      have lb2 := openL_le k G2
      obtain ⟨nA, hnA⟩ : ∃ m, m = (openL k F).length := ⟨_, rfl⟩
      obtain ⟨nB, hnB⟩ : ∃ m, m = (openL k G1).length := ⟨_, rfl⟩
      obtain ⟨nD, hnD⟩ : ∃ m, m = (openL k G2).length := ⟨_, rfl⟩
      have hdis' : nA = nD ∨ nA = nB := by omega
      have hnd : nD = nB + 1 := by omega
      have HA := hide hnA
      have HB := hide hnB
      have HDD := hide hnD
      have HG1 := hide hG1
      have HG2 := hide hG2
      have HNO := hide hno
      have HUP := hide hup
      have la' : nA ≤ k := by omega
      have lb' : nB ≤ k := by omega
      rw [← hnA]
      clear hnA hnB hnD hG1 hG2 u1 u2 hdis la lb1 lb2 g1l hno hup ol
      go_wp2_with fail
      refine (open_yes _ _ _ _ _ F _ (hsl0.gr hgr) hm).mono ?_
      rintro e w3 ⟨⟨v, rfl, hv⟩, hg3⟩
      rw [openV_cel] at hv
      obtain ⟨aA, cA, rfl, -, -, -⟩ := SlI.of_own hv
      clear hv
      rw [← HA.out]
      replace hgr := hgr.trans hg3
      replace d1 := cell_gr d1 hg3
      replace d2 := cell_gr d2 hg3
      replace d3 := cell_gr d3 hg3
      clear hg3
      go_wp2_with fail
      refine (with_yes _ _ _ _ _ F l 255 _ (hsl0.gr hgr) hlocl (by omega) (by omega)).mono ?_
      rintro e w4 ⟨⟨g4, c4, rfl, -, -, hs4⟩, hg4⟩
      rw [← HG1.out] at hs4
      replace hgr := hgr.trans hg4
      clear hg4 d1 d2 d3
      go_wp2_with fail
      refine (with_yes _ _ _ _ _ G1 l 1 _ (hs4.gr (by repeat (first | exact Gr.refl _ | assumption | exact Dr.gr (by assumption) | refine Gr.alloc ?_ _ | refine Gr.drewN ?_ _ | refine Gr.drew ?_ | refine Gr.trans ?_ (by assumption) | refine Gr.trans ?_ (Dr.gr (by assumption))))) hloc1 (by omega) (by omega)).mono ?_
      rintro e w5 ⟨⟨g5, c5, rfl, -, -, hs5⟩, hg5⟩
      rw [← HG2.out] at hs5
      go_wp2_with fail
      obtain ⟨d1, d2, d3⟩ := tri_at w4 W H (.slice (some ⟨g4, 0, none⟩) k c4)
      replace d1 := cell_gr d1 hg5
      replace d2 := cell_gr d2 hg5
      replace d3 := cell_gr d3 hg5
      obtain ⟨e1, e2, e3⟩ := tri_at w5 W H (.slice (some ⟨g5, 0, none⟩) k c5)
      have hg6 : Gr w5 (w5.alloc (.cells #[.int .i64 W, .int .i64 H, .slice (some ⟨g5, 0, none⟩) k c5] 24)) := (by repeat (first | exact Gr.refl _ | assumption | exact Dr.gr (by assumption) | refine Gr.alloc ?_ _ | refine Gr.drewN ?_ _ | refine Gr.drew ?_ | refine Gr.trans ?_ (by assumption) | refine Gr.trans ?_ (Dr.gr (by assumption))))
      generalize w5.alloc (.cells #[.int .i64 W, .int .i64 H, .slice (some ⟨g5, 0, none⟩) k c5] 24) = w6 at *
      replace d1 := cell_gr d1 hg6
      replace d2 := cell_gr d2 hg6
      replace d3 := cell_gr d3 hg6
      replace hs5 := hs5.gr hg6
      replace hs4 := hs4.gr (Gr.trans (Gr.trans (by repeat (first | exact Gr.refl _ | assumption | exact Dr.gr (by assumption) | refine Gr.alloc ?_ _ | refine Gr.drewN ?_ _ | refine Gr.drew ?_ | refine Gr.trans ?_ (by assumption) | refine Gr.trans ?_ (Dr.gr (by assumption)))) hg5) hg6)
      replace hgr : Gr u0 w6 := hgr.trans (Gr.trans (Gr.trans (by repeat (first | exact Gr.refl _ | assumption | exact Dr.gr (by assumption) | refine Gr.alloc ?_ _ | refine Gr.drewN ?_ _ | refine Gr.drew ?_ | refine Gr.trans ?_ (by assumption) | refine Gr.trans ?_ (Dr.gr (by assumption)))) hg5) hg6)
      clear hg5 hg6
      generalize w4.heap.size = B4 at *
      generalize w5.heap.size = B5 at *
      replace c1 := cell_gr c1 hgr
      replace c2 := cell_gr c2 hgr
      replace c3 := cell_gr c3 hgr
      go_region_held3 (fun u => u.cell? ⟨B4, 0, none⟩ = some (.int .i64 W) ∧ u.cell? ⟨B4, 1, none⟩ = some (.int .i64 H) ∧ u.cell? ⟨B4, 2, none⟩ = some (.slice (some ⟨g4, 0, none⟩) k c4) ∧ u.cell? ⟨B5, 0, none⟩ = some (.int .i64 W) ∧ u.cell? ⟨B5, 1, none⟩ = some (.int .i64 H) ∧ u.cell? ⟨B5, 2, none⟩ = some (.slice (some ⟨g5, 0, none⟩) k c5) ∧ Gr w6 u) (first | exact ⟨d1, d2, d3, e1, e2, e3, (Gr.refl _).drew⟩ | exact ⟨cell_gr hS.1 hg7, cell_gr hS.2.1 hg7, cell_gr hS.2.2.1 hg7, cell_gr hS.2.2.2.1 hg7, cell_gr hS.2.2.2.2.1 hg7, cell_gr hS.2.2.2.2.2.1 hg7, hS.2.2.2.2.2.2.trans hg7⟩ | exact ⟨cell_gr hS.1 hg8, cell_gr hS.2.1 hg8, cell_gr hS.2.2.1 hg8, cell_gr hS.2.2.2.1 hg8, cell_gr hS.2.2.2.2.1 hg8, cell_gr hS.2.2.2.2.2.1 hg8, hS.2.2.2.2.2.2.trans hg8⟩) (first | (go_at_call_of 18 (Value.slice (some (Addr.mk g4 0 none)) k c4); have hS := ‹_ ∧ _ ∧ _ ∧ _ ∧ _ ∧ _ ∧ Gr _ _›; refine (open_yes _ _ _ _ _ G1 _ (hs4.gr hS.2.2.2.2.2.2) hm1).mono ?_; rintro e w7 ⟨⟨v, rfl, hv⟩, hg7⟩; rw [openV_cel] at hv; obtain ⟨aB, cB, rfl, -, -, hB⟩ := SlI.of_own hv; rw [← HB.out] at hB ⊢; clear hv) | (go_at_call_of 18 (Value.slice (some (Addr.mk g5 0 none)) k c5); have hS := ‹_ ∧ _ ∧ _ ∧ _ ∧ _ ∧ _ ∧ Gr _ _›; refine (open_yes _ _ _ _ _ G2 _ (hs5.gr hS.2.2.2.2.2.2) hm2).mono ?_; rintro e w8 ⟨⟨v, rfl, hv⟩, hg8⟩; rw [openV_cel] at hv; obtain ⟨aD, cD, rfl, -, -, -⟩ := SlI.of_own hv; rw [← HDD.out]; clear hv))
      have hSe := ‹_ ∧ _ ∧ _ ∧ _ ∧ _ ∧ _ ∧ Gr _ w8›
      have hge := hSe.2.2.2.2.2.2
      replace c1 := cell_gr c1 hge
      replace c2 := cell_gr c2 hge
      replace c3 := cell_gr c3 hge
      replace hgr := hgr.trans hge
      replace hB := hB.gr hg8
      have hgww := hgw.trans hgr
      clear hSe hS hg7 hg8 hge d1 d2 d3 e1 e2 e3 hgr
      clear hS
      go_wp2_with fail
      go_loopw [20] (fun i u => ∃ j : Nat, j ≤ nB ∧ i = .int .i64 j ∧ Dr w8 u) (fun i _ => nB - (intOf i).toNat)
      case atStart => exact ⟨0, Nat.zero_le _, rfl, Dr.refl _⟩
      case round =>
        obtain ⟨j, hj, rfl, q, rfl⟩ := hrel
        by_cases hjl : j < nB
        · obtain ⟨b, o, rfl, _, hc⟩ := hB.at (by omega)
          have hcj := hc j hjl
          have hno := HNO.out j (by rw [← HB.out]; exact hjl)
          have j0 : (0 : Int) ≤ (j : Int) := by omega
          have j1 : (j : Int) < (nB : Int) := by omega
          by_cases hj0 : j = 0
          · subst hj0
            clear hc
            rw [Nat.add_zero] at hcj
            generalize openF k G1 0 = z at *
            have hz : (z == (l : Int)) = false := by simp [hno]
            clear hno
            go_wp2_with fail
            go_quiet (fail)
            go_wp2
            go_roundw
            case rel => exact ⟨1, by omega, by go_num, ⟨_, rfl⟩⟩
            case measure => simp [intOf]; omega
          · obtain ⟨p, rfl⟩ : ∃ p, j = p + 1 := ⟨j - 1, by omega⟩
            have hcp := hc p (by omega)
            have hup := HUP.out (p + 1) (by omega) (by rw [← HB.out]; exact hjl)
            rw [Nat.add_sub_cancel] at hup
            clear hc
            generalize openF k G1 (p + 1) = z at *
            generalize openF k G1 p = z' at *
            have hz : (z == (l : Int)) = false := by simp [hno]
            have hz' : decide (z ≤ z') = false := by simp; omega
            have p0 : (0 : Int) ≤ (p : Int) := by omega
            have p1 : (p : Int) < (nB : Int) := by omega
            have p2 : IntKind.i64.wrap (p : Int) = p := wrapI (by omega)
            have p3 : IntKind.i64.wrap ((p : Int) + 1 - 1) = p := by rw [Int.add_sub_cancel]; exact p2
            have p4 : (0 : Int) < (p : Int) + 1 := by omega
            have p5 : (p : Int) + 1 < (nB : Int) := by omega
            clear hno hup
            go_wp2_with fail
            go_quiet (fail)
            go_wp2
            go_roundw
            case rel => exact ⟨p + 1 + 1, by omega, by go_num, ⟨_, rfl⟩⟩
            case measure => simp [intOf]; omega
        · have hjn : j = nB := by omega
          subst hjn
          go_wp2_with (go_at_call 8; refine (told_any _).mono ?_; rintro e w9 ⟨rfl, hg9⟩; replace c3 := cell_gr (cell_gr c3 ((Gr.refl _).drewN q)) hg9)
          all_goals
            go_ret
            exact ⟨ret_bool (by simp; try omega), (by repeat (first | exact Gr.refl _ | assumption | exact Dr.gr (by assumption) | refine Gr.alloc ?_ _ | refine Gr.drewN ?_ _ | refine Gr.drew ?_ | refine Gr.trans ?_ (by assumption) | refine Gr.trans ?_ (Dr.gr (by assumption))))⟩

end Go.Proofs.Ytafghafdapiadaa
