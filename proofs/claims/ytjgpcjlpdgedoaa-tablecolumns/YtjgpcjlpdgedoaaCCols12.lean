/- TableColumns's walk: it answers true at every input. No condition. -/
import Derived.Test.YtjgpcjlpdgedoaaCTold12
import Derived.Test.YtjgpcjlpdgedoaaCSome12
namespace Go.Proofs.Ytjgpcjlpdgedoaa
open Go.RowKit
set_option maxRecDepth 20000

set_option maxHeartbeats 8000000 in
theorem tableColumns_any (x y : Int) (ad : Option Addr) (n cap : Nat) (f : Nat → Int) (ak : Option Addr) (m kc : Nat) (z : Nat → Int) (wh : Int) (w : World) (h : Sl w ad n f) (hn : n ≤ maxLen) (hk : SlI w ak m z) :
    Calls Try.prog 7 #[.int .i64 x, .int .i64 y, .slice ad n cap, .slice ak m kc, .int .i64 wh] w fun e w' => e = .returned (.bool true) ∧ Gr w w' := by
  unfold maxLen at hn
  go_enter Try.func7, Try.ntmps7
  go_wp2_with fail
  refine (madeTile_any _ _ _ _ _ f _ h (by unfold maxLen; omega)).mono ?_
  rintro e w1 ⟨⟨g, c', N, rfl, hN, hown⟩, hg1⟩
  have hm := made_may h.byte hN
  generalize withinF x 1 16 = W at *
  generalize withinF y 1 16 = H at *
  generalize madeF n f = t at *
  obtain ⟨-, -, -, -, hsl⟩ := hown.sl
  have n1 := (mayTB_n hm).1
  have n2 := (mayTB_n hm).2.1
  clear hown hN h hn
  obtain ⟨c1, c2, c3⟩ := tri_at w1 W H (.slice (some ⟨g, 0, none⟩) N c')
  obtain ⟨u1, hu1⟩ : ∃ u1, u1 = w1.alloc (.cells #[.int .i64 W, .int .i64 H, .slice (some ⟨g, 0, none⟩) N c'] 24) := ⟨_, rfl⟩
  have hgu : Gr w1 u1 := hu1 ▸ (Gr.refl w1).alloc _
  rw [← hu1] at c1 c2 c3
  go_upto_region 2 with fail
  rw [← hu1]
  clear hu1
  generalize w1.heap.size = BX at *
  replace hsl := hsl.gr hgu
  have hgr := hg1.trans hgu
  replace hk := hk.gr hgr
  clear hg1 hgu
  go_wp2_with fail
  refine (some_any W H _ N c' t ak m kc z _ hsl n1 (by omega) hk).mono ?_
  rintro e w2 ⟨⟨a2, cc2, k, L, rfl, k12, HL, hil⟩, hg2⟩
  have HO : Hid (Opn t N (atN L) k) := hide (by have := HL.out.2.opn; rwa [HL.out.1] at this)
  have hls : SlI w2 a2 k (atN L) := hil.sli
  generalize atN L = s at *
  clear HL hil hk
  replace c1 := cell_gr c1 hg2
  replace c2 := cell_gr c2 hg2
  replace c3 := cell_gr c3 hg2
  replace hsl := hsl.gr hg2
  replace hgr := hgr.trans hg2
  clear hg2
  go_wp2_with fail
  refine (make_yes hsl hls hm HO.out).mono ?_
  rintro e w3 ⟨⟨gt, ct, G, rfl, -, hfar, hT⟩, hg3⟩
  replace c1 := cell_gr c1 hg3
  replace c2 := cell_gr c2 hg3
  replace c3 := cell_gr c3 hg3
  replace hsl := hsl.gr hg3
  replace hls := hls.gr hg3
  replace hgr := hgr.trans hg3
  have hgph := gph_of hm hsl.byte
  have HT := hide hT
  have HG := hide hgph
  obtain ⟨M, hM⟩ : ∃ M, M = k * k := ⟨_, rfl⟩
  have hMM : M ≤ 144 := by rw [hM]; exact Nat.mul_le_mul k12 k12
  have hMw : IntKind.i64.wrap ((k : Int) * (k : Int)) = (M : Int) := by rw [hM, Int.natCast_mul, wrapI (by rw [← Int.natCast_mul, ← hM]; omega)]
  rw [← hM] at hfar ⊢
  have HM := hide hM
  clear hM hg3 hT hgph
  rcases Nat.eq_zero_or_pos k with k0 | k0
  · subst k0
    obtain rfl : M = 0 := by have := HM.out; simpa using this
    clear hMw
    go_wp2_with fail
    refine (told12_any _).mono ?_
    rintro e z1 ⟨rfl, hgz⟩
    go_wp2_with fail
    go_ret
    exact ⟨rfl, (hgr).trans hgz⟩
  · have hw1 : IntKind.i64.wrap ((k : Int) - 1) = (k : Int) - 1 := wrapI (by omega)
    have k1 : ¬ (k : Int) = 0 := by omega
    go_wp2_with fail
    refine (within_any wh 0 ((k : Int) - 1) _ (by omega) (by omega) (by omega)).mono ?_
    rintro e w4 ⟨rfl, hd4⟩
    have bd := within_bd wh 0 ((k : Int) - 1) (by omega)
    obtain ⟨J, hJ⟩ : ∃ J : Nat, withinF wh 0 ((k : Int) - 1) = (J : Int) := ⟨_, (Int.toNat_of_nonneg bd.1).symm⟩
    rw [hJ] at bd ⊢
    have hJk : J < k := by omega
    have hJi : (J : Int) < (k : Int) := by omega
    have J0 : (0 : Int) ≤ (J : Int) := by omega
    have hg4 := hd4.gr
    obtain ⟨l1, l2, l3⟩ := HO.out.loc J hJk
    obtain ⟨b, o, rfl, hb, hc⟩ := hls.at (by omega)
    have e1 := cell_gr (hc J hJk) hg4
    obtain ⟨v, hv⟩ : ∃ v : Nat, s J = (v : Int) := ⟨_, (Int.toNat_of_nonneg l1).symm⟩
    rw [hv] at e1 l2 l3
    rw [Int.toNat_natCast] at l3
    have HV := hide hv
    have HC := hide hc
    have d1 := cell_gr c1 hg4
    have d2 := cell_gr c2 hg4
    have d3 := cell_gr c3 hg4
    have hsl4 := hsl.gr hg4
    replace hgr := hgr.trans hg4
    clear hJ bd hd4 l1 hv hc hw1
    go_upto_region 10 with fail
    go_region_held3 (fun u => u.cell? ⟨BX, 0, none⟩ = some (.int .i64 W) ∧ u.cell? ⟨BX, 1, none⟩ = some (.int .i64 H) ∧ u.cell? ⟨BX, 2, none⟩ = some (.slice (some ⟨g, 0, none⟩) N c') ∧ u.cell? ⟨b, o + J, none⟩ = some (.int .i64 (v : Int))) (first | exact ⟨d1, d2, d3, e1⟩ | exact ⟨cell_gr d1 hg9, cell_gr d2 hg9, cell_gr d3 hg9, cell_gr e1 hg9⟩) (first
      | (go_at_call 18; refine (to_yes (hsl4.gr ((Gr.refl w4).drew)) hm (by omega) l3).mono ?_; rintro e w5 ⟨⟨gd, cd, F, rfl, hge, hfd, hcol⟩, hg5⟩; have hg9 : Gr w4 w5 := ((Gr.refl w4).drew).trans hg5))
    have hg5' := hg4.trans hg9
    have HCL := hide hcol
    have f3 := cell_gr d3 hg9
    have hgr5 := hgr.trans hg9
    clear hcol hge hg5 d1 d2 d3 e1 l2 l3 hg9 hg4
    go_wp2_with fail
    go_loopw [19] (fun iv u => ∃ i : Nat, iv = .int .i64 i ∧ i ≤ k ∧ Gr w5 u) (fun iv _ => k - (intOf iv).toNat)
    case atStart => exact ⟨0, rfl, by omega, Gr.refl _⟩
    case round =>
      obtain ⟨i, rfl, hi, hgi⟩ := hrel
      generalize wr = w6 at *
      by_cases hik : i < k
      · have hii : (i : Int) < (k : Int) := by omega
        have i0 : (0 : Int) ≤ (i : Int) := by omega
        have hg6 := hg5'.trans hgi
        obtain ⟨R1, P1, v1, v2, v3, v4, HP1, q1⟩ := place_go HM.out (by omega) hik hJk
        have y1 := cell_gr (hfar.cell q1) hg6
        have y2 := cell_gr (HC.out i hik) hg6
        obtain ⟨l1, l2, -⟩ := HO.out.loc i hik
        obtain ⟨u, hu⟩ : ∃ u : Nat, s i = (u : Int) := ⟨_, (Int.toNat_of_nonneg l1).symm⟩
        rw [hu] at y2 l2
        have hun : u < N := by omega
        have hui : (u : Int) < (N : Int) := by omega
        have u0 : (0 : Int) ≤ (u : Int) := by omega
        have y3 := cell_gr (hfd.cell hun) hgi
        have ee : G P1 = F u := by
          obtain ⟨d, hd1, hd2⟩ := HT.out J hJk
          rw [HP1.out, hd2 i hik, hu, Int.toNat_natCast]
          rw [HV.out, Int.toNat_natCast] at hd1
          exact hd1.uniq HCL.out.sp hun
        rw [ee] at y1
        obtain ⟨A, hA⟩ : ∃ A, A = F u := ⟨_, rfl⟩
        rw [← hA] at y1 y3
        clear ee hA hu l1 l2 q1
        go_upto_region 16 with fail
        go_quiet (fail)
        go_wp2_with fail
        go_roundw
        case rel => exact ⟨i + 1, by go_num, by omega, hgi.drewN _⟩
        case measure => simp [intOf]; omega
      · obtain rfl : i = k := by omega
        go_wp2_with fail
        refine (told12_any _).mono ?_
        rintro e z1 ⟨rfl, hgz⟩
        go_wp2_with fail
        go_ret
        exact ⟨rfl, (hgr5.trans hgi).trans hgz⟩
end Go.Proofs.Ytjgpcjlpdgedoaa
