/- TableBack's walk: it answers true at every input. No condition. -/
import Derived.Test.YtjgpcjlpdgedoaaCTold12
import Derived.Test.YtjgpcjlpdgedoaaCSome12
namespace Go.Proofs.Ytjgpcjlpdgedoaa
open Go.RowKit
set_option maxRecDepth 20000

set_option maxHeartbeats 8000000 in
theorem tableBack_any (x y : Int) (ad : Option Addr) (n cap : Nat) (f : Nat → Int) (ak : Option Addr) (m kc : Nat) (z : Nat → Int) (w : World) (h : Sl w ad n f) (hn : n ≤ maxLen) (hk : SlI w ak m z) :
    Calls Try.prog 6 #[.int .i64 x, .int .i64 y, .slice ad n cap, .slice ak m kc] w fun e w' => e = .returned (.bool true) ∧ Gr w w' := by
  unfold maxLen at hn
  go_enter Try.func6, Try.ntmps6
  go_wp2_with fail
  refine (madeTile_any _ _ _ _ _ f _ h (by unfold maxLen; omega)).mono ?_
  rintro e w1 ⟨⟨g, c', N, rfl, hN, hown⟩, hg1⟩
  have hm := made_may h.byte hN
  generalize withinF x 1 16 = W at *
  generalize withinF y 1 16 = H at *
  generalize madeF n f = t at *
  obtain ⟨-, -, -, -, hsl⟩ := hown.sl
  have n1 := (mayTB_n hm).1
  have n2 := (mayTB_n hm).2.1
  clear hown hN h hn
  obtain ⟨c1, c2, c3⟩ := tri_at w1 W H (.slice (some ⟨g, 0, none⟩) N c')
  obtain ⟨u1, hu1⟩ : ∃ u1, u1 = w1.alloc (.cells #[.int .i64 W, .int .i64 H, .slice (some ⟨g, 0, none⟩) N c'] 24) := ⟨_, rfl⟩
  have hgu : Gr w1 u1 := hu1 ▸ (Gr.refl w1).alloc _
  rw [← hu1] at c1 c2 c3
  go_upto_region 2 with fail
  rw [← hu1]
  clear hu1
  generalize w1.heap.size = BX at *
  replace hsl := hsl.gr hgu
  have hgr := hg1.trans hgu
  replace hk := hk.gr hgr
  clear hg1 hgu
  go_wp2_with fail
  refine (some_any W H _ N c' t ak m kc z _ hsl n1 (by omega) hk).mono ?_
  rintro e w2 ⟨⟨a2, cc2, k, L, rfl, k12, HL, hil⟩, hg2⟩
  have HO : Hid (Opn t N (atN L) k) := hide (by have := HL.out.2.opn; rwa [HL.out.1] at this)
  have hls : SlI w2 a2 k (atN L) := hil.sli
  generalize atN L = s at *
  clear HL hil hk
  replace c1 := cell_gr c1 hg2
  replace c2 := cell_gr c2 hg2
  replace c3 := cell_gr c3 hg2
  replace hsl := hsl.gr hg2
  replace hgr := hgr.trans hg2
  clear hg2
  go_wp2_with fail
  refine (make_yes hsl hls hm HO.out).mono ?_
  rintro e w3 ⟨⟨gt, ct, G, rfl, -, hfar, hT⟩, hg3⟩
  replace c1 := cell_gr c1 hg3
  replace c2 := cell_gr c2 hg3
  replace c3 := cell_gr c3 hg3
  replace hsl := hsl.gr hg3
  replace hls := hls.gr hg3
  replace hgr := hgr.trans hg3
  have hgph := gph_of hm hsl.byte
  have HT := hide hT
  have HG := hide hgph
  obtain ⟨M, hM⟩ : ∃ M, M = k * k := ⟨_, rfl⟩
  have hMM : M ≤ 144 := by rw [hM]; exact Nat.mul_le_mul k12 k12
  have hMw : IntKind.i64.wrap ((k : Int) * (k : Int)) = (M : Int) := by rw [hM, Int.natCast_mul, wrapI (by rw [← Int.natCast_mul, ← hM]; omega)]
  rw [← hM] at hfar ⊢
  have HM := hide hM
  clear hM hg3 hT hgph
  go_wp2_with fail
  go_loopw [14] (fun iv u => ∃ i : Nat, iv = .int .i64 i ∧ i ≤ k ∧ Gr w3 u) (fun iv _ => k - (intOf iv).toNat)
  case atStart => exact ⟨0, rfl, by omega, Gr.refl _⟩
  case round =>
    obtain ⟨i, rfl, hi, hgi⟩ := hrel
    generalize wr = w4 at *
    by_cases hik : i < k
    · have hii : (i : Int) < (k : Int) := by omega
      go_wp2_with fail
      go_loopw [15] (fun jv u => ∃ j : Nat, jv = .int .i64 j ∧ j ≤ k ∧ Gr w4 u) (fun jv _ => k - (intOf jv).toNat)
      case atStart => exact ⟨0, rfl, by omega, Gr.refl _⟩
      case round =>
        obtain ⟨j, rfl, hj, hgj⟩ := hrel
        generalize wr = w5 at *
        by_cases hjk : j < k
        · have hji : (j : Int) < (k : Int) := by omega
          have hg5 := hgi.trans hgj
          obtain ⟨R1, P1, v1, v2, v3, v4, HP1, q1⟩ := place_go HM.out (by omega) hik hjk
          obtain ⟨R2, P2, v5, v6, v7, v8, HP2, q2⟩ := place_go HM.out (by omega) hjk hik
          have y1 := cell_gr (hfar.cell q1) hg5
          have y2 := cell_gr (hfar.cell q2) hg5
          have tt := tab_turn HG.out HT.out HO.out hik hjk
          rw [← HP1.out, ← HP2.out] at tt
          obtain ⟨A, hA⟩ : ∃ A, A = G P1 := ⟨_, rfl⟩
          obtain ⟨B, hB⟩ : ∃ B, B = G P2 := ⟨_, rfl⟩
          rw [← hA] at y1 tt
          rw [← hB] at y2 tt
          have HA := hide hA
          have HB := hide hB
          clear hA hB q1 q2
          have i0 : (0 : Int) ≤ (i : Int) := by omega
          have j0 : (0 : Int) ≤ (j : Int) := by omega
          go_wp2_with fail
          go_quiet (fail)
          have hg6 : Gr w3 (w5.drewN nq) := hg5.drewN nq
          have hgj6 : Gr w4 (w5.drewN nq) := hgj.drewN nq
          clear y1 y2 v1 v2 v3 v4 v5 v6 v7 v8 hg5 hgj
          generalize (w5.drewN nq) = w6 at *
          rcases tt with ⟨ta, tb, te⟩ | ⟨ta, tb⟩
          · have lp := HO.out.loc i hik
            have lq := HO.out.loc j hjk
            have bd := hide (And.intro (tab_bd HG.out HT.out HO.out hik hjk) (tab_bd HG.out HT.out HO.out hjk hik))
            rw [← HP1.out, ← HP2.out, ← HA.out, ← HB.out] at bd
            obtain ⟨b, o, rfl, hb, hc⟩ := hls.at (by omega)
            have e1 := cell_gr (hc i hik) hg6
            have e2 := cell_gr (hc j hjk) hg6
            obtain ⟨p, hp⟩ : ∃ p, p = s i := ⟨_, rfl⟩
            obtain ⟨q, hq⟩ : ∃ q, q = s j := ⟨_, rfl⟩
            rw [← hp] at e1 lp te
            rw [← hq] at e2 lq te
            have bp := hsl.byte p.toNat (by omega)
            have bq := hsl.byte q.toNat (by omega)
            have ep : atF W H N t p = t p.toNat := by
              have hl : isLocB W H N t p = true := (isLocB_iff _ _ _ _ _).2 ⟨hm, by omega, by omega⟩
              simp [atF, hl]
            have eq : atF W H N t q = t q.toNat := by
              have hl : isLocB W H N t q = true := (isLocB_iff _ _ _ _ _).2 ⟨hm, by omega, by omega⟩
              simp [atF, hl]
            have HEP := hide ep
            have HEQ := hide eq
            generalize t p.toNat = tp at *
            generalize t q.toNat = tq at *
            obtain ⟨V, hV⟩ : ∃ V, V = A + tp := ⟨_, rfl⟩
            have wA : IntKind.i64.wrap (A + tp) = V := by have := bd.out; rw [wrapI (by omega)]; omega
            have wB : IntKind.i64.wrap (B + tq) = V := by have := bd.out; rw [wrapI (by omega)]; omega
            have d1 := cell_gr c1 hg6
            have d2 := cell_gr c2 hg6
            have d3 := cell_gr c3 hg6
            have hsl6 := hsl.gr hg6
            have dA : decide (1099511627776 ≤ A) = false := by simp; omega
            have dB : decide (1099511627776 ≤ B) = false := by simp; omega
            have nA : ¬ 1099511627776 ≤ A := by omega
            have nB : ¬ 1099511627776 ≤ B := by omega
            clear hV ep eq lp lq bp bq hp hq hc te
            have HFA := hide (And.intro dA (And.intro dB (And.intro nA nB)))
            have lAt : A < 1099511627776 := ta
            clear dA dB nA nB ta tb
            go_upto_region 14 with fail
            obtain ⟨dA, dB, nA, nB⟩ := HFA.out
            go_region_held3 (fun u => u.cell? ⟨BX, 0, none⟩ = some (.int .i64 W) ∧ u.cell? ⟨BX, 1, none⟩ = some (.int .i64 H) ∧ u.cell? ⟨BX, 2, none⟩ = some (.slice (some ⟨g, 0, none⟩) N c') ∧ u.cell? ⟨b, o + i, none⟩ = some (.int .i64 p) ∧ u.cell? ⟨b, o + j, none⟩ = some (.int .i64 q) ∧ Gr w6 u) (first | exact ⟨d1, d2, d3, e1, e2, (Gr.refl _).drew⟩ | exact ⟨cell_gr hS.1 hg9, cell_gr hS.2.1 hg9, cell_gr hS.2.2.1 hg9, cell_gr hS.2.2.2.1 hg9, cell_gr hS.2.2.2.2.1 hg9, hS.2.2.2.2.2.trans hg9⟩) (first
              | (go_at_call 20; have hS := ‹_ ∧ _ ∧ _ ∧ _ ∧ _ ∧ Gr _ _›; with_reducible refine (at_any W H _ N c' t p _ (hsl6.gr hS.2.2.2.2.2)).mono ?_; rintro e w9 ⟨rfl, hg9⟩; rw [HEP.out])
              | (go_at_call 20; have hS := ‹_ ∧ _ ∧ _ ∧ _ ∧ _ ∧ Gr _ _›; with_reducible refine (at_any W H _ N c' t q _ (hsl6.gr hS.2.2.2.2.2)).mono ?_; rintro e w9 ⟨rfl, hg9⟩; rw [HEQ.out]))
            have hS := ‹_ ∧ _ ∧ _ ∧ _ ∧ _ ∧ Gr _ _›
            have hg7 := hS.2.2.2.2.2
            go_wp2_with fail
            go_roundw
            case rel => exact ⟨j + 1, by go_num, by omega, hgj6.trans hg7⟩
            case measure => simp [intOf]; omega
          · subst ta
            subst tb
            go_wp2_with fail
            go_quiet (fail)
            go_wp2_with fail
            go_roundw
            case rel => exact ⟨j + 1, by go_num, by omega, hgj6.drewN _⟩
            case measure => simp [intOf]; omega
        · obtain rfl : j = k := by omega
          go_wp2_with fail
          go_roundw
          case rel => exact ⟨i + 1, by go_num, by omega, hgi.trans hgj⟩
          case measure => simp [intOf]; omega
    · obtain rfl : i = k := by omega
      go_wp2_with fail
      refine (told12_any _).mono ?_
      rintro e z1 ⟨rfl, hgz⟩
      go_wp2_with fail
      go_ret
      exact ⟨rfl, (hgr.trans hgi).trans hgz⟩
end Go.Proofs.Ytjgpcjlpdgedoaa
