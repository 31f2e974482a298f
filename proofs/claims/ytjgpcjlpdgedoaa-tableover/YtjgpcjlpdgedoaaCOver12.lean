/- TableOver's walk: it answers true at every input. No condition. -/
import Derived.Test.YtjgpcjlpdgedoaaCTold12
import Derived.Test.YtjgpcjlpdgedoaaCSome12
namespace Go.Proofs.Ytjgpcjlpdgedoaa
open Go.RowKit
set_option maxRecDepth 20000

set_option maxHeartbeats 8000000 in
theorem tableOver_any (x y : Int) (ad : Option Addr) (n cap : Nat) (f : Nat → Int) (ak : Option Addr) (m kc : Nat) (z : Nat → Int) (w : World) (h : Sl w ad n f) (hn : n ≤ maxLen) (hk : SlI w ak m z) :
    Calls Try.prog 5 #[.int .i64 x, .int .i64 y, .slice ad n cap, .slice ak m kc] w fun e w' => e = .returned (.bool true) ∧ Gr w w' := by
  unfold maxLen at hn
  go_enter Try.func5, Try.ntmps5
  go_wp2_with fail
  refine (madeTile_any _ _ _ _ _ f _ h (by unfold maxLen; omega)).mono ?_
  rintro e w1 ⟨⟨g, c', N, rfl, hN, hown⟩, hg1⟩
  have hm := made_may h.byte hN
  generalize withinF x 1 16 = W at *
  generalize withinF y 1 16 = H at *
  generalize madeF n f = t at *
  obtain ⟨-, -, -, -, hsl⟩ := hown.sl
  have n1 := (mayTB_n hm).1
  have n2 := (mayTB_n hm).2.1
  clear hown hN h hn
  obtain ⟨c1, c2, c3⟩ := tri_at w1 W H (.slice (some ⟨g, 0, none⟩) N c')
  obtain ⟨u1, hu1⟩ : ∃ u1, u1 = w1.alloc (.cells #[.int .i64 W, .int .i64 H, .slice (some ⟨g, 0, none⟩) N c'] 24) := ⟨_, rfl⟩
  have hgu : Gr w1 u1 := hu1 ▸ (Gr.refl w1).alloc _
  rw [← hu1] at c1 c2 c3
  go_upto_region 2 with fail
  rw [← hu1]
  clear hu1
  generalize w1.heap.size = BX at *
  replace hsl := hsl.gr hgu
  have hgr := hg1.trans hgu
  replace hk := hk.gr hgr
  clear hg1 hgu
  go_wp2_with fail
  refine (some_any W H _ N c' t ak m kc z _ hsl n1 (by omega) hk).mono ?_
  rintro e w2 ⟨⟨a2, cc2, k, L, rfl, k12, HL, hil⟩, hg2⟩
  have HO : Hid (Opn t N (atN L) k) := hide (by have := HL.out.2.opn; rwa [HL.out.1] at this)
  have hls : SlI w2 a2 k (atN L) := hil.sli
  generalize atN L = s at *
  clear HL hil hk
  replace c1 := cell_gr c1 hg2
  replace c2 := cell_gr c2 hg2
  replace c3 := cell_gr c3 hg2
  replace hsl := hsl.gr hg2
  replace hgr := hgr.trans hg2
  clear hg2
  go_wp2_with fail
  refine (make_yes hsl hls hm HO.out).mono ?_
  rintro e w3 ⟨⟨gt, ct, G, rfl, -, hfar, hT⟩, hg3⟩
  replace c1 := cell_gr c1 hg3
  replace c2 := cell_gr c2 hg3
  replace c3 := cell_gr c3 hg3
  replace hsl := hsl.gr hg3
  replace hls := hls.gr hg3
  replace hgr := hgr.trans hg3
  have hgph := gph_of hm hsl.byte
  have HT := hide hT
  have HG := hide hgph
  obtain ⟨M, hM⟩ : ∃ M, M = k * k := ⟨_, rfl⟩
  have hMM : M ≤ 144 := by rw [hM]; exact Nat.mul_le_mul k12 k12
  have hMw : IntKind.i64.wrap ((k : Int) * (k : Int)) = (M : Int) := by rw [hM, Int.natCast_mul, wrapI (by rw [← Int.natCast_mul, ← hM]; omega)]
  rw [← hM] at hfar ⊢
  have HM := hide hM
  clear hM hg3 hT hgph
  go_wp2_with fail
  go_loopw [14] (fun iv u => ∃ i : Nat, iv = .int .i64 i ∧ i ≤ k ∧ Gr w3 u) (fun iv _ => k - (intOf iv).toNat)
  case atStart => exact ⟨0, rfl, by omega, Gr.refl _⟩
  case round =>
    obtain ⟨i, rfl, hi, hgi⟩ := hrel
    generalize wr = w4 at *
    by_cases hik : i < k
    · have hii : (i : Int) < (k : Int) := by omega
      have i0 : (0 : Int) ≤ (i : Int) := by omega
      obtain ⟨R1, P1, v1, v2, v3, v4, HP1, q1⟩ := place_go HM.out (by omega) hik hik
      have y1 := cell_gr (hfar.cell q1) hgi
      have tz := tab_zero HG.out HT.out HO.out hik
      rw [← HP1.out] at tz
      rw [tz] at y1
      clear tz q1
      go_wp2_with fail
      clear y1 v1 v2 v3 v4
      go_loopw [15] (fun jv u => ∃ j : Nat, jv = .int .i64 j ∧ j ≤ k ∧ Gr w4 u) (fun jv _ => k - (intOf jv).toNat)
      case atStart => exact ⟨0, rfl, by omega, Gr.refl _⟩
      case round =>
        obtain ⟨j, rfl, hj, hgj⟩ := hrel
        generalize wr = w5 at *
        by_cases hjk : j < k
        · have hji : (j : Int) < (k : Int) := by omega
          have j0 : (0 : Int) ≤ (j : Int) := by omega
          have hg5 := hgi.trans hgj
          by_cases hij : i = j
          · subst hij
            go_wp2_with fail
            go_loopw [16] (fun qv u => ∃ q : Nat, qv = .int .i64 q ∧ q ≤ k ∧ Gr w5 u) (fun qv _ => k - (intOf qv).toNat)
            case atStart => exact ⟨0, rfl, by omega, Gr.refl _⟩
            case round =>
              obtain ⟨q, rfl, hq, hgq⟩ := hrel
              generalize wr = w6 at *
              by_cases hqk : q < k
              · have hqi : (q : Int) < (k : Int) := by omega
                have q0 : (0 : Int) ≤ (q : Int) := by omega
                have hg6 := hg5.trans hgq
                obtain ⟨Ra, Pa, a1, a2, a3, a4, HPa, qa⟩ := place_go HM.out (by omega) hik hqk
                obtain ⟨Rb, Pb, b1, b2, b3, b4, HPb, qb⟩ := place_go HM.out (by omega) hqk hik
                obtain ⟨Rc, Pc, d1, d2, d3, d4, HPc, qc⟩ := place_go HM.out (by omega) hik hik
                obtain rfl : Ra = Rc := by have := a1.symm.trans d1; omega
                have x1 := cell_gr (hfar.cell qa) hg6
                have x2 := cell_gr (hfar.cell qb) hg6
                have x3 := cell_gr (hfar.cell qc) hg6
                have ov := tab_over HG.out HT.out HO.out hik hik hqk
                have ba := tab_bd HG.out HT.out HO.out hik hqk
                have bb := tab_bd HG.out HT.out HO.out hqk hik
                rw [← HPa.out] at ov ba
                rw [← HPb.out] at ov bb
                rw [← HPc.out] at ov
                obtain ⟨A, hA⟩ : ∃ A, A = G Pa := ⟨_, rfl⟩
                obtain ⟨B9, hB9⟩ : ∃ B9, B9 = G Pb := ⟨_, rfl⟩
                obtain ⟨C, hC⟩ : ∃ C, C = G Pc := ⟨_, rfl⟩
                rw [← hA] at x1 ov ba
                rw [← hB9] at x2 ov bb
                rw [← hC] at x3 ov
                have hwr : IntKind.i64.wrap (A + B9) = A + B9 := wrapI (by omega)
                have hno : ¬ A + B9 < C := by omega
                clear hA hB9 hC qa qb qc ov ba bb d1
                go_upto_region 20 with fail
                go_quiet (fail)
                go_wp2_with fail
                go_roundw
                case rel => exact ⟨q + 1, by go_num, by omega, hgq.drewN _⟩
                case measure => simp [intOf]; omega
              · obtain rfl : q = k := by omega
                go_wp2_with fail
                go_roundw
                case rel => exact ⟨i + 1, by go_num, by omega, hgj.trans hgq⟩
                case measure => simp [intOf]; omega
          · obtain ⟨R2, P2, v5, v6, v7, v8, HP2, q2⟩ := place_go HM.out (by omega) hik hjk
            have y2 := cell_gr (hfar.cell q2) hg5
            have tf := tab_far HG.out HT.out HO.out hik hjk hij
            rw [← HP2.out] at tf
            obtain ⟨B, hB⟩ : ∃ B, B = G P2 := ⟨_, rfl⟩
            rw [← hB] at y2 tf
            have nB : ¬ B < 1 := by omega
            have eij : ((i : Int) != (j : Int)) = true := by simp; omega
            clear hB q2 tf
            go_wp2_with fail
            clear y2 nB eij v5 v6 v7 v8
            go_loopw [16] (fun qv u => ∃ q : Nat, qv = .int .i64 q ∧ q ≤ k ∧ Gr w5 u) (fun qv _ => k - (intOf qv).toNat)
            case atStart => exact ⟨0, rfl, by omega, Gr.refl _⟩
            case round =>
              obtain ⟨q, rfl, hq, hgq⟩ := hrel
              generalize wr = w6 at *
              by_cases hqk : q < k
              · have hqi : (q : Int) < (k : Int) := by omega
                have q0 : (0 : Int) ≤ (q : Int) := by omega
                have hg6 := hg5.trans hgq
                obtain ⟨Ra, Pa, a1, a2, a3, a4, HPa, qa⟩ := place_go HM.out (by omega) hik hqk
                obtain ⟨Rb, Pb, b1, b2, b3, b4, HPb, qb⟩ := place_go HM.out (by omega) hqk hjk
                obtain ⟨Rc, Pc, d1, d2, d3, d4, HPc, qc⟩ := place_go HM.out (by omega) hik hjk
                obtain rfl : Ra = Rc := by have := a1.symm.trans d1; omega
                have x1 := cell_gr (hfar.cell qa) hg6
                have x2 := cell_gr (hfar.cell qb) hg6
                have x3 := cell_gr (hfar.cell qc) hg6
                have ov := tab_over HG.out HT.out HO.out hik hjk hqk
                have ba := tab_bd HG.out HT.out HO.out hik hqk
                have bb := tab_bd HG.out HT.out HO.out hqk hjk
                rw [← HPa.out] at ov ba
                rw [← HPb.out] at ov bb
                rw [← HPc.out] at ov
                obtain ⟨A, hA⟩ : ∃ A, A = G Pa := ⟨_, rfl⟩
                obtain ⟨B9, hB9⟩ : ∃ B9, B9 = G Pb := ⟨_, rfl⟩
                obtain ⟨C, hC⟩ : ∃ C, C = G Pc := ⟨_, rfl⟩
                rw [← hA] at x1 ov ba
                rw [← hB9] at x2 ov bb
                rw [← hC] at x3 ov
                have hwr : IntKind.i64.wrap (A + B9) = A + B9 := wrapI (by omega)
                have hno : ¬ A + B9 < C := by omega
                clear hA hB9 hC qa qb qc ov ba bb d1
                go_upto_region 20 with fail
                go_quiet (fail)
                go_wp2_with fail
                go_roundw
                case rel => exact ⟨q + 1, by go_num, by omega, hgq.drewN _⟩
                case measure => simp [intOf]; omega
              · obtain rfl : q = k := by omega
                go_wp2_with fail
                go_roundw
                case rel => exact ⟨j + 1, by go_num, by omega, hgj.trans hgq⟩
                case measure => simp [intOf]; omega
        · obtain rfl : j = k := by omega
          go_wp2_with fail
          go_roundw
          case rel => exact ⟨i + 1, by go_num, by omega, hgi.trans hgj⟩
          case measure => simp [intOf]; omega
    · obtain rfl : i = k := by omega
      go_wp2_with fail
      refine (told12_any _).mono ?_
      rintro e z1 ⟨rfl, hgz⟩
      go_wp2_with fail
      go_ret
      exact ⟨rfl, (hgr.trans hgi).trans hgz⟩
end Go.Proofs.Ytjgpcjlpdgedoaa
