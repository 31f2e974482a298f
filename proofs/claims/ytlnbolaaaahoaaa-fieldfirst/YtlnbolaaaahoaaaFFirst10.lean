/- FieldFirst's walk: it answers true at every input. No condition. -/
import Derived.Test.YtlnbolaaaahoaaaFTold10
import Derived.Test.YtlnbolaaaahoaaaFBest10
import Derived.Deep.RegionHeld3
import Derived.Deep.CutRange
namespace Go.Proofs.Ytlnbolaaaahoaaa
open Go.RowKit
set_option maxRecDepth 20000

set_option maxHeartbeats 1500000 in
theorem fieldFirst_any (x y : Int) (ad : Option Addr) (n cap : Nat) (f : Nat → Int) (ak : Option Addr) (m kc : Nat) (z : Nat → Int) (cl : Int) (w : World) (h : Sl w ad n f) (hn : n ≤ maxLen) (hk : SlI w ak m z) (hkm : m ≤ kc ∧ kc ≤ maxLen) (hkn : ak = none → m = 0 ∧ kc = 0) :
    Calls Try.prog 5 #[.int .i64 x, .int .i64 y, .slice ad n cap, .slice ak m kc, .int .i64 cl] w fun e w' => e = .returned (.bool true) ∧ Gr w w' := by
  unfold maxLen at hn
  go_enter Try.func5, Try.ntmps5
  go_wp2_with fail
  refine (madeTile_any _ _ _ _ _ f _ h (by unfold maxLen; omega)).mono ?_
  rintro e w1 ⟨⟨g, c', N, rfl, hN, hown⟩, hg1⟩
  have hm := made_may h.byte hN
  generalize withinF x 1 16 = W at *
  generalize withinF y 1 16 = H at *
  generalize madeF n f = t at *
  obtain ⟨-, -, -, -, hsl⟩ := hown.sl
  have n1 := (mayTB_n hm).1
  have n2 := (mayTB_n hm).2.1
  clear hown hN h hn
  obtain ⟨c1, c2, c3⟩ := tri_at w1 W H (.slice (some ⟨g, 0, none⟩) N c')
  obtain ⟨u1, hu1⟩ : ∃ u1, u1 = w1.alloc (.cells #[.int .i64 W, .int .i64 H, .slice (some ⟨g, 0, none⟩) N c'] 24) := ⟨_, rfl⟩
  have hgu : Gr w1 u1 := hu1 ▸ (Gr.refl w1).alloc _
  rw [← hu1] at c1 c2 c3
  go_upto_region 2 with fail
  rw [← hu1]
  clear hu1
  generalize w1.heap.size = BX at *
  replace hsl := hsl.gr hgu
  have hgr := hg1.trans hgu
  replace hk := hk.gr hgr
  clear hg1 hgu
  go_region_held3 (fun u => u.cell? ⟨BX, 0, none⟩ = some (.int .i64 W) ∧ u.cell? ⟨BX, 1, none⟩ = some (.int .i64 H) ∧ u.cell? ⟨BX, 2, none⟩ = some (.slice (some ⟨g, 0, none⟩) N c')) (first | exact ⟨c1, c2, c3⟩ | exact ⟨cell_gr c1 hg9, cell_gr c2 hg9, cell_gr c3 hg9⟩) (first
    | (go_at_call 12; refine (few10_any ak m kc z _ (hk.gr ((Gr.refl u1).drew)) hkm.1 hkm.2 hkn).mono ?_; rintro e w3 ⟨⟨k, k24, kn, rfl, hki⟩, hg3⟩; have hg9 : Gr u1 w3 := ((Gr.refl u1).drew).trans hg3)
    | (go_at_call 11; refine (xseeds_any W H _ N c' t ak k kc z _ (hsl.gr hg9) n1 (by omega) hki (by omega)).mono ?_; rintro e w4 ⟨⟨a2, cc2, k2, M, rfl, kM, HM, hown⟩, hg4⟩; have hg9 : Gr u1 w4 := (((Gr.refl u1).drew).trans hg3).trans hg4))
  have hmay : mayS W H N t M = true := mayS_ok hm hsl.byte HM.out.2
  obtain ⟨-, hsd⟩ := sds_of hsl.byte hmay
  have HOUT := hide (outs_of hsl.byte hmay)
  have hpl := plain_own hown
  have HS0 : SlS w4 a2 k2 cc2 M := sls_own hown HM.out.1
  replace c1 := cell_gr c1 hg9
  replace c2 := cell_gr c2 hg9
  replace c3 := cell_gr c3 hg9
  replace hsl := hsl.gr hg9
  replace hgr := hgr.trans hg9
  clear hown hki hg3 hg4 hg9 hk
  have k2s : k2 ≤ 24 := by omega
  go_wp2_with fail
  refine (field_yes hsl HS0 hpl hmay hsd (by omega) (by omega) (by omega)).mono ?_
  rintro e w5 ⟨⟨gf, cf, gd, F, D, rfl, hfar, hdir, hsp, hD⟩, hg5⟩
  replace c1 := cell_gr c1 hg5
  replace c2 := cell_gr c2 hg5
  replace c3 := cell_gr c3 hg5
  replace hsl := hsl.gr hg5
  replace hgr := hgr.trans hg5
  replace HS0 := HS0.gr hg5
  have hr := pair_alloc w5 (.slice (some ⟨gf, 0, none⟩) N cf) (.slice (some ⟨gd, 0, none⟩) N N) 33
  obtain ⟨w6, hw6⟩ : ∃ w6, w6 = w5.alloc (.cells #[.slice (some ⟨gf, 0, none⟩) N cf, .slice (some ⟨gd, 0, none⟩) N N] 33) := ⟨_, rfl⟩
  have g6 : Gr w5 w6 := hw6 ▸ (Gr.refl w5).alloc _
  rw [← hw6] at hr
  replace c1 := cell_gr c1 g6
  replace c2 := cell_gr c2 g6
  replace c3 := cell_gr c3 g6
  replace hsl := hsl.gr g6
  replace hgr := hgr.trans g6
  replace HS0 := HS0.gr g6
  replace hfar := hfar.gr g6
  replace hdir := hdir.gr g6
  obtain ⟨d1, d2, -, -⟩ := pair_at hr
  go_upto_region 4 with fail
  rw [← hw6]
  clear hw6 g6 hr hg5
  generalize w5.heap.size = BF at *
  have hgph := gph_of hm hsl.byte
  have hpos : ∀ i, i < N → 0 ≤ F i ∧ F i ≤ 1099511627776 := fun i hi => ⟨hsp.pos hgph hsd hi, hsp.top i hi⟩
  have htb : ∀ i, i < N → w6.cell? ⟨g, i, none⟩ = some (.int .u8 (t i)) := fun i hi => by
    obtain ⟨b, o, e, -, hc⟩ := hsl.at (by omega)
    cases e
    have := hc i hi
    rwa [Nat.zero_add] at this
  have hfc : ∀ i, i < N → w6.cell? ⟨gf, i, none⟩ = some (.int .i64 (F i)) := fun i hi => hfar.cell hi
  have hdc : ∀ i, i < N → w6.cell? ⟨gd, i, none⟩ = some (.int .i64 (D i)) := fun i hi => hdir.cell hi
  have hN0 : (N : Int) = N := rfl
  have HSP := hide hsp
  have HPOS := hide hpos
  have HTB := hide htb
  have HFC := hide hfc
  have HDC := hide hdc
  have HSD := hide hsd
  have HD := hide hD
  have HG := hide hgph
  have HSF := hide hfar.sli
  have HSG := hide hdir.sli
  clear hsp hpos htb hfc hdc hmay hfar hdir hsd hN0 hD hgph
  obtain ⟨A, hA⟩ : ∃ A : Nat, withinF cl 0 ((N : Int) - 1) = (A : Int) := ⟨_, (Int.toNat_of_nonneg (within_bd cl 0 ((N : Int) - 1) (by omega)).1).symm⟩
  have hAn : A < N := by
    have := (within_bd cl 0 ((N : Int) - 1) (by omega)).2
    omega
  have HA := hide hA
  clear hA
  have hw1 : IntKind.i64.wrap ((N : Int) - 1) = (N : Int) - 1 := wrapI (by omega)
  go_wp2_with fail
  refine (within_any cl 0 ((N : Int) - 1) _ (by omega) (by omega) (by omega)).mono ?_
  rintro e w7 ⟨rfl, hd7⟩
  rw [HA.out]
  have hg7 : Gr w6 w7 := hd7.gr
  have An : (A : Int) < (N : Int) := by omega
  have A0 : (0 : Int) ≤ (A : Int) := by omega
  clear hd7 hw1 HA
  have q1 := cell_gr d1 hg7
  have q2 := cell_gr d2 hg7
  have xf := cell_gr (HFC.out A hAn) hg7
  have xd := cell_gr (HDC.out A hAn) hg7
  have hdi := HD.out A hAn
  obtain ⟨dv, hdv⟩ : ∃ dv, dv = D A := ⟨_, rfl⟩
  obtain ⟨fv, hfv⟩ : ∃ fv, fv = F A := ⟨_, rfl⟩
  rw [← hdv] at xd hdi
  rw [← hfv] at xf
  by_cases hF : F A = 1099511627776
  · rw [dir_none hF] at hdi
    rw [hF] at hfv
    subst hdi hfv
    clear hF hdv
    go_wp2_with fail
    refine (told10_any _).mono ?_
    rintro e z1 ⟨rfl, hgz⟩
    replace q1 := cell_gr q1 hgz
    replace xf := cell_gr xf hgz
    go_wp2_with fail
    go_ret
    exact ⟨rfl, (hgr.trans hg7).trans hgz⟩
  · obtain ⟨hd04, hdgo, hdh, hdf⟩ := dir_some HG.out HOUT.out HSP.out hAn hF
    rw [← hdi] at hd04 hdgo hdh hdf
    have e5 : (dv == 5) = false := by simp; omega
    have HFV := hide hfv
    have HFN := hide hF
    have HGO := hide hdgo
    clear hdi hdv hfv hF hdgo
    go_wp2_with fail
    go_region_held3 (fun u => u.cell? ⟨BF, 0, none⟩ = some (.slice (some ⟨gf, 0, none⟩) N cf) ∧ u.cell? ⟨gf, A, none⟩ = some (.int .i64 fv)) (first | exact ⟨q1, xf⟩ | exact ⟨cell_gr q1 hg9, cell_gr xf hg9⟩)
      (first | (go_at_call 18; refine (rbest_any a2 k2 cc2 M (A : Int) 4 _ ((HS0.gr hg7).gr ((Gr.refl w7).drew))).mono ?_; rintro e w8 ⟨rfl, hg8⟩; have hg9 : Gr w7 w8 := ((Gr.refl w7).drew).trans hg8))
    replace hg7 := hg7.trans hg9
    replace q1 := cell_gr q1 hg9
    replace q2 := cell_gr q2 hg9
    replace xf := cell_gr xf hg9
    replace xd := cell_gr xd hg9
    clear hg8 hg9
    have hgo4 : goF (nearF W H N t) t F M (A : Int) 4 = (bst INF (A : Int) 4 M).1 := by
      unfold goF nxF
      rw [if_pos rfl, if_pos (by omega)]
    by_cases h4 : (bst INF (A : Int) 4 M).1 = fv
    · rw [h4]
      have hd4 : dv = 4 := hdh (by rw [hgo4, h4]; exact HFV.out)
      subst hd4
      clear h4 hgo4 hdh hdf hd04 e5 HGO
      go_wp2_with fail
      refine (told10_any _).mono ?_
      rintro e z1 ⟨rfl, hgz⟩
      replace q2 := cell_gr q2 hgz
      replace xd := cell_gr xd hgz
      go_wp2_with fail
      go_ret
      exact ⟨rfl, (hgr.trans hg7).trans hgz⟩
    · have hd4 : dv ≠ 4 := fun e => h4 (by have := HGO.out; rw [e, hgo4] at this; rw [this]; exact HFV.out.symm)
      have hdl : dv ≤ 3 := by omega
      have HDF : Hid (∀ s : Int, 0 ≤ s → s < dv → goF (nearF W H N t) t F M (A : Int) s ≠ F A) := hide (fun s s0 s1 => hdf s s0 s1 hd4)
      have eb : ((bst INF (A : Int) 4 M).1 == fv) = false := by simpa using h4
      obtain ⟨bv, hbv⟩ : ∃ bv, bv = (bst INF (A : Int) 4 M).1 := ⟨_, rfl⟩
      rw [← hbv] at eb ⊢
      have hd00 := hd04.1
      clear hbv h4 hgo4 hdh hdf hd04 HGO hd4 e5
      go_wp2_with fail
      rw [eb]
      clear eb
      go_loopw [16] (fun sv u => ∃ j : Nat, sv = .int .i64 j ∧ (j : Int) ≤ dv ∧ Gr w8 u) (fun sv _ => 4 - (intOf sv).toNat)
      case atStart => exact ⟨0, rfl, by omega, Gr.refl _⟩
      case round =>
        obtain ⟨j, rfl, hj, hgu⟩ := hrel
        generalize wr = w9 at *
        replace q1 := cell_gr q1 hgu
        replace q2 := cell_gr q2 hgu
        replace xf := cell_gr xf hgu
        replace xd := cell_gr xd hgu
        have hgw := hg7.trans hgu
        by_cases hjd : (j : Int) < dv
        · have k1 := cell_gr c1 hgw
          have k2' := cell_gr c2 hgw
          have k3 := cell_gr c3 hgw
          have hj0 : (0 : Int) ≤ (j : Int) := by omega
          have hns := HDF.out j hj0 hjd
          rw [← HFV.out] at hns
          go_wp2_with fail
          refine (rnear_any W H _ N c' t (A : Int) j w9 (hsl.gr hgw)).mono ?_
          rintro e w10 ⟨rfl, hg10⟩
          have hgv := hgu.trans hg10
          have hgx := hgw.trans hg10
          replace q1 := cell_gr q1 hg10
          replace xf := cell_gr xf hg10
          replace k3 := cell_gr k3 hg10
          clear k1 k2' q2 xd
          have hnx : nxF (nearF W H N t) (A : Int) j = nearF W H N t (A : Int) j := by
            unfold nxF
            rw [if_neg (by omega)]
          rcases near_cases W H N t (A : Int) j with hz | ⟨q, hq⟩
          · have hz1 : nearF W H N t (A : Int) j = -1 := by
              have := near_ge W H N t (A : Int) j
              omega
            have hb : (bst INF (A : Int) j M).1 ≠ fv := by
              unfold goF at hns
              rwa [hnx, if_pos hz] at hns
            have HBE : Hid (∀ u, Dr w10 u → Calls Try.prog 18 #[.slice a2 k2 cc2, .int .i64 (A : Int), .int .i64 (j : Int)] u fun e w' => e = .returned (.int .i64 (bst INF (A : Int) j M).1) ∧ Dr u w') := hide (fun u hu => rbest_dr a2 k2 cc2 M (A : Int) j u ((HS0.gr hgx).gr hu.gr))
            generalize (bst INF (A : Int) j M).1 = bj at *
            have ebj : (bj == fv) = false := by simpa using hb
            rw [hz1]
            clear hb hns hz hz1 hnx
            go_wp2_with fail
            go_quiet (first | (go_at_call 18; refine Dr.quiet (HBE.out _ ⟨_, rfl⟩)))
            go_wp2_with fail
            go_roundw
            case rel => exact ⟨j + 1, by go_num, by omega, hgv.drewN _⟩
            case measure => simp [intOf]; omega
          · rw [hq]
            obtain ⟨hqn, -⟩ := HG.out.sym A q j hj0 (by omega) hq hAn
            have yt := cell_gr (HTB.out q hqn) hgx
            have yf := cell_gr (HFC.out q hqn) hgx
            have yb := hsl.byte q hqn
            have yp := HPOS.out q hqn
            have hns2 : F q + t q ≠ fv := by
              unfold goF at hns
              rw [hnx, hq, if_neg (by omega)] at hns
              simpa using hns
            obtain ⟨tq, htq⟩ : ∃ tq, tq = t q := ⟨_, rfl⟩
            obtain ⟨fq, hfq⟩ : ∃ fq, fq = F q := ⟨_, rfl⟩
            rw [← htq] at yt yb hns2
            rw [← hfq] at yf yp hns2
            have q00 : ¬ (q : Int) < 0 := by omega
            have q01 : (0 : Int) ≤ (q : Int) := by omega
            have q02 : (q : Int) < (N : Int) := by omega
            by_cases et : tq = 255
            · subst et
              clear hns hns2 hfq hq htq yp yb hnx
              go_wp2_with fail
              have qF : decide ((q : Int) < 0) = false := by simp
              go_quiet (fail)
              go_wp2_with fail
              go_roundw
              case rel => exact ⟨j + 1, by go_num, by omega, hgv.drewN _⟩
              case measure => simp [intOf]; omega
            · have et2 : (tq != 255) = true := by simpa using et
              have ew1 : IntKind.i64.wrap tq = tq := wrapI (by omega)
              have ew2 : IntKind.i64.wrap (fq + tq) = fq + tq := wrapI (by omega)
              have es : (fq + tq == fv) = false := by simpa using hns2
              clear hns hns2 hfq hq htq yp yb et hnx
              go_wp2_with fail
              have qF : decide ((q : Int) < 0) = false := by simp
              go_quiet (fail)
              go_wp2_with fail
              go_roundw
              case rel => exact ⟨j + 1, by go_num, by omega, hgv.drewN _⟩
              case measure => simp [intOf]; omega
        · have hje : (j : Int) = dv := by omega
          subst hje
          have hjd2 : (j : Int) ≤ 3 := hdl
          have hjj : ¬ (j : Int) < (j : Int) := by omega
          clear hjd hdl
          go_wp2_with fail
          refine (told10_any _).mono ?_
          rintro e z1 ⟨rfl, hgz⟩
          replace q2 := cell_gr q2 hgz
          replace xd := cell_gr xd hgz
          go_wp2_with fail
          go_ret
          exact ⟨rfl, (hgr.trans hgw).trans hgz⟩
end Go.Proofs.Ytlnbolaaaahoaaa
