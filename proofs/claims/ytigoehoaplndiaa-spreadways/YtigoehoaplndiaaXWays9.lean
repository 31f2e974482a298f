/- SpreadWays's walk: it answers true at every input. No condition. -/
import Derived.Test.YtigoehoaplndiaaXFew9
import Derived.Deep.RegionHeld3
namespace Go.Proofs.Ytigoehoaplndiaa
open Go.RowKit
set_option maxRecDepth 20000

set_option maxHeartbeats 8000000 in
theorem spreadWays_any (x y : Int) (ad : Option Addr) (n cap : Nat) (f : Nat → Int) (ak : Option Addr) (m kc : Nat) (z : Nat → Int) (fr : Int) (ast : Option Addr) (ms sc : Nat) (zs : Nat → Int) (w : World) (h : Sl w ad n f) (hn : n ≤ maxLen) (hk : SlI w ak m z) (hkm : m ≤ kc ∧ kc ≤ maxLen) (hkn : ak = none → m = 0 ∧ kc = 0) (hst : SlI w ast ms zs) :
    Calls Try.prog 7 #[.int .i64 x, .int .i64 y, .slice ad n cap, .slice ak m kc, .int .i64 fr, .slice ast ms sc] w fun e w' => e = .returned (.bool true) ∧ Gr w w' := by
  unfold maxLen at hn
  go_enter Try.func7, Try.ntmps7
  go_wp2_with fail
  refine (madeTile_any _ _ _ _ _ f _ h (by unfold maxLen; omega)).mono ?_
  rintro e w1 ⟨⟨g, c', N, rfl, hN, hown⟩, hg1⟩
  have hm := made_may h.byte hN
  generalize withinF x 1 16 = W at *
  generalize withinF y 1 16 = H at *
  generalize madeF n f = t at *
  obtain ⟨-, -, -, -, hsl⟩ := hown.sl
  have n1 := (mayTB_n hm).1
  have n2 := (mayTB_n hm).2.1
  clear hown hN h hn
  obtain ⟨c1, c2, c3⟩ := tri_at w1 W H (.slice (some ⟨g, 0, none⟩) N c')
  obtain ⟨u1, hu1⟩ : ∃ u1, u1 = w1.alloc (.cells #[.int .i64 W, .int .i64 H, .slice (some ⟨g, 0, none⟩) N c'] 24) := ⟨_, rfl⟩
  have hgu : Gr w1 u1 := hu1 ▸ (Gr.refl w1).alloc _
  rw [← hu1] at c1 c2 c3
  go_upto_region 2 with fail
  rw [← hu1]
  clear hu1
  generalize w1.heap.size = BX at *
  replace hsl := hsl.gr hgu
  have hgr := hg1.trans hgu
  replace hk := hk.gr hgr
  clear hg1 hgu
  go_region_held3 (fun u => u.cell? ⟨BX, 0, none⟩ = some (.int .i64 W) ∧ u.cell? ⟨BX, 1, none⟩ = some (.int .i64 H) ∧ u.cell? ⟨BX, 2, none⟩ = some (.slice (some ⟨g, 0, none⟩) N c')) (first | exact ⟨c1, c2, c3⟩ | exact ⟨cell_gr c1 hg9, cell_gr c2 hg9, cell_gr c3 hg9⟩) (first
    | (go_at_call 12; refine (few9_any ak m kc z _ (hk.gr ((Gr.refl u1).drew)) hkm.1 hkm.2 hkn).mono ?_; rintro e w3 ⟨⟨k, k24, kn, rfl, hki⟩, hg3⟩; have hg9 : Gr u1 w3 := ((Gr.refl u1).drew).trans hg3)
    | (go_at_call 11; refine (xseeds_any W H _ N c' t ak k kc z _ (hsl.gr hg9) n1 (by omega) hki (by omega)).mono ?_; rintro e w4 ⟨⟨a2, cc2, k2, M, rfl, kM, HM, hown⟩, hg4⟩; have hg9 : Gr u1 w4 := (((Gr.refl u1).drew).trans hg3).trans hg4))
  have hmay : mayS W H N t M = true := mayS_ok hm hsl.byte HM.out.2
  obtain ⟨-, hsd⟩ := sds_of hsl.byte hmay
  have hpl := plain_own hown
  have HS0 : SlS w4 a2 k2 cc2 M := sls_own hown HM.out.1
  replace c1 := cell_gr c1 hg9
  replace c2 := cell_gr c2 hg9
  replace c3 := cell_gr c3 hg9
  replace hsl := hsl.gr hg9
  replace hgr := hgr.trans hg9
  clear hown hki hg3 hg4 hg9 hk
  have k2s : k2 ≤ 24 := by omega
  go_wp2_with fail
  refine (spread_yes hsl HS0 hpl hmay hsd (by omega) (by omega) (by omega)).mono ?_
  rintro e w5 ⟨⟨gf, cf, F, rfl, -, hfar, hsp, -⟩, hg5⟩
  replace c1 := cell_gr c1 hg5
  replace c2 := cell_gr c2 hg5
  replace c3 := cell_gr c3 hg5
  replace hsl := hsl.gr hg5
  replace hgr := hgr.trans hg5
  replace HS0 := HS0.gr hg5
  have hgph := gph_of hm hsl.byte
  have hpos : ∀ i, i < N → 0 ≤ F i ∧ F i ≤ 1099511627776 := fun i hi => ⟨hsp.pos hgph hsd hi, hsp.top i hi⟩
  have htb : ∀ i, i < N → w5.cell? ⟨g, i, none⟩ = some (.int .u8 (t i)) := fun i hi => by
    obtain ⟨b, o, e, -, hc⟩ := hsl.at (by omega)
    cases e
    have := hc i hi
    rwa [Nat.zero_add] at this
  have hfc : ∀ i, i < N → w5.cell? ⟨gf, i, none⟩ = some (.int .i64 (F i)) := fun i hi => hfar.cell hi
  have hN0 : (N : Int) = N := rfl
  have HSP := hide hsp
  have HPOS := hide hpos
  have HTB := hide htb
  have HFC := hide hfc
  have HSD := hide hsd
  clear hsp hpos htb hfc hg5 hmay hfar hsd hN0
  replace hst := hst.gr hgr
  obtain ⟨A0, hA0⟩ : ∃ A0 : Nat, withinF fr 0 ((N : Int) - 1) = (A0 : Int) := ⟨_, (Int.toNat_of_nonneg (within_bd fr 0 ((N : Int) - 1) (by omega)).1).symm⟩
  have hA0n : A0 < N := by
    have := (within_bd fr 0 ((N : Int) - 1) (by omega)).2
    omega
  have HA0 := hide hA0
  clear hA0
  have hw1 : IntKind.i64.wrap ((N : Int) - 1) = (N : Int) - 1 := wrapI (by omega)
  go_wp2_with fail
  refine (within_any fr 0 ((N : Int) - 1) _ (by omega) (by omega) (by omega)).mono ?_
  rintro e w6 ⟨rfl, hd6⟩
  rw [HA0.out]
  go_wp2_with fail
  replace c1 := cell_gr c1 hd6.gr
  replace c2 := cell_gr c2 hd6.gr
  replace c3 := cell_gr c3 hd6.gr
  replace HS0 := HS0.gr hd6.gr
  replace hst := hst.gr hd6.gr
  replace hsl := hsl.gr hd6.gr
  replace hgr := hgr.trans hd6.gr
  replace HTB : Hid (∀ i, i < N → w6.cell? ⟨g, i, none⟩ = some (.int .u8 (t i))) := hide (fun i hi => cell_gr (HTB.out i hi) hd6.gr)
  replace HFC : Hid (∀ i, i < N → w6.cell? ⟨gf, i, none⟩ = some (.int .i64 (F i))) := hide (fun i hi => cell_gr (HFC.out i hi) hd6.gr)
  clear hd6 hw1 HA0
  have A0n : (A0 : Int) < (N : Int) := by omega
  go_loopw [17, 19, 20] (fun av cv iv u => ∃ (A : Nat) (C : Int) (I : Nat), av = .int .i64 A ∧ cv = .int .i64 C ∧ iv = .int .i64 I ∧ A < N ∧ I ≤ 61 ∧ 0 ≤ C ∧ C ≤ 255 * (I : Int) ∧ Hid (F A0 ≤ C + F A) ∧ Gr w6 u) (fun _ _ iv _ => 61 - (intOf iv).toNat)
  case atStart => exact ⟨A0, 0, 0, rfl, rfl, rfl, hA0n, by omega, by omega, by omega, hide (by omega), Gr.refl _⟩
  case round =>
    obtain ⟨A, C, I, rfl, rfl, rfl, hA, hI, C0, C1, HFA, hgu⟩ := hrel
    generalize wr = w7 at *
    have hgr7 := hgr.trans hgu
    have tA := cell_gr (HTB.out A hA) hgu
    have d3 := cell_gr c3 hgu
    have hAi : (A : Int) < (N : Int) := by omega
    obtain ⟨v, hv⟩ : ∃ v, v = t A := ⟨_, rfl⟩
    rw [← hv] at tA
    have HV := hide hv
    clear hv
    by_cases hIm : I ≤ ms
    · have hImi : (I : Int) ≤ (ms : Int) := by omega
      by_cases hI60 : I ≤ 60
      · have hI60i : (I : Int) ≤ 60 := by omega
        by_cases hv255 : v = 255
        · have ev : (v != 255) = false := by simp [hv255]
          clear hv255
          go_wp2_with fail
          refine (told9_any _).mono ?_
          rintro e z1 ⟨rfl, hgz⟩
          go_wp2_with fail
          go_ret
          exact ⟨rfl, (hgr7).trans hgz⟩
        · have ev : (v != 255) = true := by simp [hv255]
          have HAO : Hid (t A ≠ 255) := hide (by rw [← HV.out]; exact hv255)
          clear hv255
          go_wp2_with fail
          go_loopw [21] (fun jv u => ∃ J : Nat, J ≤ k2 ∧ jv = .int .i64 J ∧ Gr w7 u) (fun jv _ => k2 - (intOf jv).toNat)
          case atStart => exact ⟨0, by omega, rfl, Gr.refl _⟩
          case round =>
            obtain ⟨J, hJ, rfl, hgj⟩ := hrel
            generalize wr = w8 at *
            have hg68 := hgu.trans hgj
            have p0 := cell_gr (HFC.out A0 hA0n) hg68
            have p1 := cell_gr (HFC.out A hA) hg68
            have b0 := HPOS.out A0 hA0n
            have b1 := HPOS.out A hA
            have hfa := HFA.out
            obtain ⟨f0, hf0⟩ : ∃ f0, f0 = F A0 := ⟨_, rfl⟩
            obtain ⟨f1, hf1⟩ : ∃ f1, f1 = F A := ⟨_, rfl⟩
            rw [← hf0] at p0 b0 hfa
            rw [← hf1] at p1 b1 hfa
            by_cases hJk : J < k2
            · have hJi : (J : Int) < (k2 : Int) := by omega
              obtain ⟨bs, os, rfl, -, hcs⟩ := HS0.at (by omega)
              obtain ⟨x1, -, x3⟩ := hcs J hJk
              replace x1 := cell_gr x1 hg68
              replace x3 := cell_gr x3 hg68
              have hmem : el M J ∈ M := el_mem (by have := HM.out.1; omega)
              have hkb : 0 ≤ (el M J).2.2 ∧ (el M J).2.2 ≤ 1073741824 := by
                obtain ⟨_, _, _, _, q⟩ := HSD.out _ hmem
                exact q
              have hlow : (el M J).1 = (A : Int) → f1 ≤ (el M J).2.2 := fun e => by rw [hf1]; exact HSP.out.seed hmem e
              obtain ⟨q1, hq1⟩ : ∃ q1, q1 = (el M J).1 := ⟨_, rfl⟩
              obtain ⟨q3, hq3⟩ : ∃ q3, q3 = (el M J).2.2 := ⟨_, rfl⟩
              rw [← hq1] at x1 hlow
              rw [← hq3] at x3 hkb hlow
              clear hcs hmem hq1 hq3 hf0 hf1
              by_cases hqA : q1 = (A : Int)
              · have hno : ¬ C + q3 < f0 := by have := hlow hqA; omega
                have hwr : IntKind.i64.wrap (C + q3) = C + q3 := wrapI (by omega)
                subst hqA
                clear hlow hfa
                go_upto_region 14 with fail
                go_quiet (fail)
                go_wp2_with fail
                go_roundw
                case rel => exact ⟨J + 1, by omega, by go_num, hgj.drewN _⟩
                case measure => simp [intOf]; omega
              · have eq1 : (q1 == (A : Int)) = false := by simpa using hqA
                clear hlow hfa hqA
                go_upto_region 14 with fail
                go_quiet (fail)
                go_wp2_with fail
                go_roundw
                case rel => exact ⟨J + 1, by omega, by go_num, hgj.drewN _⟩
                case measure => simp [intOf]; omega
            · have hJe : ¬ (J : Int) < (k2 : Int) := by omega
              have hno : ¬ C + f1 < f0 := by omega
              have hwr : IntKind.i64.wrap (C + f1) = C + f1 := wrapI (by omega)
              clear hf0 hf1 hfa
              go_upto_region 16 with fail
              go_quiet (fail)
              have hg6n : Gr w6 (w8.drewN nq) := hg68.drewN nq
              have hgrn := hgr.trans hg6n
              clear p0 p1 hno hwr b0 b1 hg68 hgj hgu
              generalize (w8.drewN nq) = w9 at *
              by_cases hIe : I = ms
              · subst hIe
                go_wp2_with fail
                refine (told9_any _).mono ?_
                rintro e z1 ⟨rfl, hgz⟩
                go_wp2_with fail
                go_ret
                exact ⟨rfl, (hgrn).trans hgz⟩
              · have hIe' : ((I : Int) == (ms : Int)) = false := by simp; omega
                have hIs : I < ms := by omega
                have hIsi : (I : Int) < (ms : Int) := by omega
                obtain ⟨bt, ot, rfl, -, hct⟩ := hst.at (by omega)
                have s1 := cell_gr (hct I hIs) hg6n
                have d1 := cell_gr c1 hg6n
                have d2 := cell_gr c2 hg6n
                have d3 := cell_gr c3 hg6n
                have hsl9 := hsl.gr hg6n
                obtain ⟨sv, hsv⟩ : ∃ sv, sv = zs I := ⟨_, rfl⟩
                rw [← hsv] at s1
                clear hct hsv hIe
                go_upto_region 19 with fail
                go_region_held3 (fun u => u.cell? ⟨BX, 0, none⟩ = some (.int .i64 W) ∧ u.cell? ⟨BX, 1, none⟩ = some (.int .i64 H) ∧ u.cell? ⟨BX, 2, none⟩ = some (.slice (some ⟨g, 0, none⟩) N c') ∧ u.cell? ⟨bt, ot + I, none⟩ = some (.int .i64 sv)) (first | exact ⟨d1, d2, d3, s1⟩ | exact ⟨cell_gr d1 hg9, cell_gr d2 hg9, cell_gr d3 hg9, cell_gr s1 hg9⟩) (first
                  | (go_at_call 19; refine (within_any sv 0 3 _ (by omega) (by omega) (by omega)).mono ?_; rintro e wa ⟨rfl, hda⟩; have hg9 : Gr w9 wa := ((Gr.refl w9).drew).trans hda.gr)
                  | (go_at_call 18; refine (rnear_any W H _ N c' t (A : Int) (withinF sv 0 3) _ (hsl9.gr hg9)).mono ?_; rintro e wb ⟨rfl, hgb⟩; have hg9 : Gr w9 wb := (((Gr.refl w9).drew).trans hda.gr).trans hgb))
                have hsb := within_bd sv 0 3 (by omega)
                generalize withinF sv 0 3 = sd at *
                have hg6b := hg6n.trans hg9
                clear d1 d2 d3 s1 hsl9 hgb hda
                have d3 := cell_gr c3 hg6b
                rcases near_cases W H N t A sd with hz | ⟨b, hz⟩
                · generalize nearF W H N t A sd = nv at *
                  go_wp2_with fail
                  go_roundw
                  case rel => exact ⟨A, C, I + 1, rfl, rfl, by go_num, hA, by omega, C0, by omega, HFA, hg6b⟩
                  case measure => simp [intOf]; omega
                · obtain ⟨hbn, -⟩ := hgph.sym A b sd hsb.1 hsb.2 hz hA
                  have hbi : (b : Int) < (N : Int) := by omega
                  have hb0 : ¬ (b : Int) < 0 := by omega
                  have tb := cell_gr (HTB.out b hbn) hg6b
                  have htc := hgph.cost b hbn
                  have HEDGE : Hid (t b ≠ 255 → F A ≤ F b + t b) := hide (fun e => HSP.out.edge hgph hA hsb.1 hsb.2 hz HAO.out e)
                  rw [hz]
                  obtain ⟨vb, hvb⟩ : ∃ vb, vb = t b := ⟨_, rfl⟩
                  rw [← hvb] at tb htc
                  have HVB := hide hvb
                  clear hz hvb
                  by_cases hb255 : vb = 255
                  · have eb : (vb == 255) = true := by simp [hb255]
                    subst hb255
                    go_wp2_with fail
                    go_roundw
                    case rel => exact ⟨A, C, I + 1, rfl, rfl, by go_num, hA, by omega, C0, by omega, HFA, hg6b⟩
                    case measure => simp [intOf]; omega
                  · have eb : (vb == 255) = false := by simp [hb255]
                    have HN2 : Hid (F A0 ≤ (C + vb) + F b) := hide (by
                      have h1 := HEDGE.out (by rw [← HVB.out]; exact hb255)
                      have h2 := HFA.out
                      have h3 := HVB.out
                      omega)
                    have hwr1 : IntKind.i64.wrap vb = vb := wrapI (by omega)
                    have hwr2 : IntKind.i64.wrap (C + vb) = C + vb := wrapI (by omega)
                    clear hb255
                    go_upto_region 21 with fail
                    go_quiet (fail)
                    go_wp2_with fail
                    go_roundw
                    case rel => exact ⟨b, C + vb, I + 1, rfl, rfl, by go_num, hbn, by omega, by omega, by omega, HN2, hg6b.drewN _⟩
                    case measure => simp [intOf]; omega
      · have hI60i : ¬ (I : Int) ≤ 60 := by omega
        go_wp2_with fail
        refine (told9_any _).mono ?_
        rintro e z1 ⟨rfl, hgz⟩
        go_wp2_with fail
        go_ret
        exact ⟨rfl, (hgr7).trans hgz⟩
    · have hImi : ¬ (I : Int) ≤ (ms : Int) := by omega
      go_wp2_with fail
      refine (told9_any _).mono ?_
      rintro e z1 ⟨rfl, hgz⟩
      go_wp2_with fail
      go_ret
      exact ⟨rfl, (hgr7).trans hgz⟩
end Go.Proofs.Ytigoehoaplndiaa
