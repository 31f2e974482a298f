/- FieldLeads's walk: it answers true at every input. No condition. -/
import Derived.Test.YtlnbolaaaahoaaaFTold10
import Derived.Test.YtlnbolaaaahoaaaFBest10
import Derived.Deep.RegionHeld3
import Derived.Deep.CutRange
namespace Go.Proofs.Ytlnbolaaaahoaaa
open Go.RowKit
set_option maxRecDepth 20000

set_option maxHeartbeats 8000000 in
theorem fieldLeads_any (x y : Int) (ad : Option Addr) (n cap : Nat) (f : Nat → Int) (ak : Option Addr) (m kc : Nat) (z : Nat → Int) (w : World) (h : Sl w ad n f) (hn : n ≤ maxLen) (hk : SlI w ak m z) (hkm : m ≤ kc ∧ kc ≤ maxLen) (hkn : ak = none → m = 0 ∧ kc = 0) :
    Calls Try.prog 4 #[.int .i64 x, .int .i64 y, .slice ad n cap, .slice ak m kc] w fun e w' => e = .returned (.bool true) ∧ Gr w w' := by
  unfold maxLen at hn
  go_enter Try.func4, Try.ntmps4
  go_wp2_with fail
  refine (madeTile_any _ _ _ _ _ f _ h (by unfold maxLen; omega)).mono ?_
  rintro e w1 ⟨⟨g, c', N, rfl, hN, hown⟩, hg1⟩
  have hm := made_may h.byte hN
  generalize withinF x 1 16 = W at *
  generalize withinF y 1 16 = H at *
  generalize madeF n f = t at *
  obtain ⟨-, -, -, -, hsl⟩ := hown.sl
  have n1 := (mayTB_n hm).1
  have n2 := (mayTB_n hm).2.1
  clear hown hN h hn
  obtain ⟨c1, c2, c3⟩ := tri_at w1 W H (.slice (some ⟨g, 0, none⟩) N c')
  obtain ⟨u1, hu1⟩ : ∃ u1, u1 = w1.alloc (.cells #[.int .i64 W, .int .i64 H, .slice (some ⟨g, 0, none⟩) N c'] 24) := ⟨_, rfl⟩
  have hgu : Gr w1 u1 := hu1 ▸ (Gr.refl w1).alloc _
  rw [← hu1] at c1 c2 c3
  go_upto_region 2 with fail
  rw [← hu1]
  clear hu1
  generalize w1.heap.size = BX at *
  replace hsl := hsl.gr hgu
  have hgr := hg1.trans hgu
  replace hk := hk.gr hgr
  clear hg1 hgu
  go_region_held3 (fun u => u.cell? ⟨BX, 0, none⟩ = some (.int .i64 W) ∧ u.cell? ⟨BX, 1, none⟩ = some (.int .i64 H) ∧ u.cell? ⟨BX, 2, none⟩ = some (.slice (some ⟨g, 0, none⟩) N c')) (first | exact ⟨c1, c2, c3⟩ | exact ⟨cell_gr c1 hg9, cell_gr c2 hg9, cell_gr c3 hg9⟩) (first
    | (go_at_call 12; refine (few10_any ak m kc z _ (hk.gr ((Gr.refl u1).drew)) hkm.1 hkm.2 hkn).mono ?_; rintro e w3 ⟨⟨k, k24, kn, rfl, hki⟩, hg3⟩; have hg9 : Gr u1 w3 := ((Gr.refl u1).drew).trans hg3)
    | (go_at_call 11; refine (xseeds_any W H _ N c' t ak k kc z _ (hsl.gr hg9) n1 (by omega) hki (by omega)).mono ?_; rintro e w4 ⟨⟨a2, cc2, k2, M, rfl, kM, HM, hown⟩, hg4⟩; have hg9 : Gr u1 w4 := (((Gr.refl u1).drew).trans hg3).trans hg4))
  have hmay : mayS W H N t M = true := mayS_ok hm hsl.byte HM.out.2
  obtain ⟨-, hsd⟩ := sds_of hsl.byte hmay
  have HOUT := hide (outs_of hsl.byte hmay)
  have hpl := plain_own hown
  have HS0 : SlS w4 a2 k2 cc2 M := sls_own hown HM.out.1
  replace c1 := cell_gr c1 hg9
  replace c2 := cell_gr c2 hg9
  replace c3 := cell_gr c3 hg9
  replace hsl := hsl.gr hg9
  replace hgr := hgr.trans hg9
  clear hown hki hg3 hg4 hg9 hk
  have k2s : k2 ≤ 24 := by omega
  go_wp2_with fail
  refine (field_yes hsl HS0 hpl hmay hsd (by omega) (by omega) (by omega)).mono ?_
  rintro e w5 ⟨⟨gf, cf, gd, F, D, rfl, hfar, hdir, hsp, hD⟩, hg5⟩
  replace c1 := cell_gr c1 hg5
  replace c2 := cell_gr c2 hg5
  replace c3 := cell_gr c3 hg5
  replace hsl := hsl.gr hg5
  replace hgr := hgr.trans hg5
  replace HS0 := HS0.gr hg5
  have hr := pair_alloc w5 (.slice (some ⟨gf, 0, none⟩) N cf) (.slice (some ⟨gd, 0, none⟩) N N) 33
  obtain ⟨w6, hw6⟩ : ∃ w6, w6 = w5.alloc (.cells #[.slice (some ⟨gf, 0, none⟩) N cf, .slice (some ⟨gd, 0, none⟩) N N] 33) := ⟨_, rfl⟩
  have g6 : Gr w5 w6 := hw6 ▸ (Gr.refl w5).alloc _
  rw [← hw6] at hr
  replace c1 := cell_gr c1 g6
  replace c2 := cell_gr c2 g6
  replace c3 := cell_gr c3 g6
  replace hsl := hsl.gr g6
  replace hgr := hgr.trans g6
  replace HS0 := HS0.gr g6
  replace hfar := hfar.gr g6
  replace hdir := hdir.gr g6
  obtain ⟨d1, d2, -, -⟩ := pair_at hr
  go_upto_region 4 with fail
  rw [← hw6]
  clear hw6 g6 hr hg5
  generalize w5.heap.size = BF at *
  have hgph := gph_of hm hsl.byte
  have hpos : ∀ i, i < N → 0 ≤ F i ∧ F i ≤ 1099511627776 := fun i hi => ⟨hsp.pos hgph hsd hi, hsp.top i hi⟩
  have htb : ∀ i, i < N → w6.cell? ⟨g, i, none⟩ = some (.int .u8 (t i)) := fun i hi => by
    obtain ⟨b, o, e, -, hc⟩ := hsl.at (by omega)
    cases e
    have := hc i hi
    rwa [Nat.zero_add] at this
  have hfc : ∀ i, i < N → w6.cell? ⟨gf, i, none⟩ = some (.int .i64 (F i)) := fun i hi => hfar.cell hi
  have hdc : ∀ i, i < N → w6.cell? ⟨gd, i, none⟩ = some (.int .i64 (D i)) := fun i hi => hdir.cell hi
  have hN0 : (N : Int) = N := rfl
  have HSP := hide hsp
  have HPOS := hide hpos
  have HTB := hide htb
  have HFC := hide hfc
  have HDC := hide hdc
  have HSD := hide hsd
  have HD := hide hD
  have HG := hide hgph
  have HSF := hide hfar.sli
  have HSG := hide hdir.sli
  clear hsp hpos htb hfc hdc hmay hfar hdir hsd hN0 hD hgph
  go_wp2_with fail
  go_loopw [13] (fun iv u => ∃ I : Nat, iv = .int .i64 I ∧ I ≤ N ∧ Gr w6 u) (fun iv _ => N - (intOf iv).toNat)
  case atStart => exact ⟨0, rfl, by omega, Gr.refl _⟩
  case round =>
    obtain ⟨I, rfl, hI, hgu⟩ := hrel
    generalize wr = w7 at *
    have q0 := cell_gr c3 hgu
    have q1 := cell_gr d1 hgu
    have q2 := cell_gr d2 hgu
    by_cases hIN : I < N
    · have hIi : (I : Int) < (N : Int) := by omega
      have hI0 : (0 : Int) ≤ (I : Int) := by omega
      have xf := cell_gr (HFC.out I hIN) hgu
      have xd := cell_gr (HDC.out I hIN) hgu
      have hdi := HD.out I hIN
      have hb1 := HPOS.out I hIN
      obtain ⟨dv, hdv⟩ : ∃ dv, dv = D I := ⟨_, rfl⟩
      obtain ⟨fv, hfv⟩ : ∃ fv, fv = F I := ⟨_, rfl⟩
      rw [← hdv] at xd hdi
      rw [← hfv] at xf hb1
      by_cases hF : F I = 1099511627776
      · rw [dir_none hF] at hdi
        rw [hF] at hfv
        subst hdi hfv
        clear hF hdv
        go_wp2_with fail
        go_roundw
        case rel => exact ⟨I + 1, by go_num, by omega, hgu⟩
        case measure => simp [intOf]; omega
      · obtain ⟨hd04, hdgo, -, -⟩ := dir_some HG.out HOUT.out HSP.out hIN hF
        rw [← hdi] at hd04 hdgo
        have e5 : (dv == 5) = false := by simp; omega
        have hfi : ¬ (1099511627776 : Int) ≤ fv := by omega
        have hdl : ¬ dv < 0 := by omega
        have hdg : ¬ 5 < dv := by omega
        have hgw := hgr.trans hgu
        have p0 := cell_gr c1 hgu
        have p1 := cell_gr c2 hgu
        have HDI := hide hdi
        have HDV := hide hdv
        have HFV := hide hfv
        have HFN := hide hF
        clear hdi hdv hfv hF
        go_wp2_with fail
        refine (rnear_any W H _ N c' t (I : Int) dv w7 (hsl.gr hgu)).mono ?_
        rintro e w8 ⟨rfl, hg8⟩
        have hgu2 := hgu.trans hg8
        replace q0 := cell_gr q0 hg8
        replace q1 := cell_gr q1 hg8
        replace q2 := cell_gr q2 hg8
        replace xf := cell_gr xf hg8
        clear hg8 p0 p1 xd
        by_cases h4 : dv = 4
        · have HB : Hid ((bst INF (I : Int) 4 M).1 = fv) := hide (by rw [h4] at hdgo; rw [HFV.out]; exact go_out hdgo (by unfold nxF; rw [if_pos rfl]; omega))
          generalize nearF W H N t (I : Int) dv = zz at *
          subst h4
          clear hdgo hd04 hfi hb1 e5
          go_wp2_with fail
          go_region_held3 (fun u => u.cell? ⟨BF, 0, none⟩ = some (.slice (some ⟨gf, 0, none⟩) N cf) ∧ u.cell? ⟨gf, I, none⟩ = some (.int .i64 fv)) (first | exact ⟨q1, xf⟩ | exact ⟨cell_gr q1 hg9, cell_gr xf hg9⟩)
            (first | (go_at_call 18; refine (rbest_any a2 k2 cc2 M (I : Int) 4 _ ((HS0.gr hgu2).gr ((Gr.refl w8).drew))).mono ?_; rintro e w9 ⟨rfl, hg9'⟩; have hg9 : Gr w8 w9 := ((Gr.refl w8).drew).trans hg9'))
          rw [HB.out]
          go_wp2_with fail
          go_roundw
          case rel => exact ⟨I + 1, by go_num, by omega, hgu2.trans hg9⟩
          case measure => simp [intOf]; omega
        · have e4 : (dv == 4) = false := by simpa using h4
          by_cases hz : nearF W H N t (I : Int) dv < 0
          · have HB : Hid ((bst INF (I : Int) dv M).1 = fv) := hide (by rw [HFV.out]; exact go_out hdgo (by unfold nxF; rw [if_neg h4]; exact hz))
            generalize nearF W H N t (I : Int) dv = zz at *
            clear hdgo hd04 hfi hb1 e5 h4
            go_wp2_with fail
            go_region_held3 (fun u => u.cell? ⟨BF, 0, none⟩ = some (.slice (some ⟨gf, 0, none⟩) N cf) ∧ u.cell? ⟨gf, I, none⟩ = some (.int .i64 fv)) (first | exact ⟨q1, xf⟩ | exact ⟨cell_gr q1 hg9, cell_gr xf hg9⟩)
              (first | (go_at_call 18; refine (rbest_any a2 k2 cc2 M (I : Int) dv _ ((HS0.gr hgu2).gr ((Gr.refl w8).drew))).mono ?_; rintro e w9 ⟨rfl, hg9'⟩; have hg9 : Gr w8 w9 := ((Gr.refl w8).drew).trans hg9'))
            rw [HB.out]
            go_wp2_with fail
            go_roundw
            case rel => exact ⟨I + 1, by go_num, by omega, hgu2.trans hg9⟩
            case measure => simp [intOf]; omega
          · obtain ⟨-, q, hq, -, hqn, hsum, hlt, hw⟩ := go_on HG.out HSD.out HSP.out hIN hd04.1 hd04.2 hdgo (by unfold nxF; rw [if_neg h4]; omega)
            rw [hq]
            have yt := cell_gr (HTB.out q hqn) hgu2
            have yf := cell_gr (HFC.out q hqn) hgu2
            have yb := hsl.byte q hqn
            have yp := HPOS.out q hqn
            obtain ⟨tq, htq⟩ : ∃ tq, tq = t q := ⟨_, rfl⟩
            obtain ⟨fq, hfq⟩ : ∃ fq, fq = F q := ⟨_, rfl⟩
            rw [← htq] at yt yb hsum hw
            rw [← hfq] at yf yp hsum
            rw [← HFV.out] at hsum
            rw [← hsum] at xf
            have q00 : ¬ (q : Int) < 0 := by omega
            have q01 : (0 : Int) ≤ (q : Int) := by omega
            have q02 : (q : Int) < (N : Int) := by omega
            have et : (tq == 255) = false := by simpa using hw
            have ew1 : IntKind.i64.wrap tq = tq := wrapI (by omega)
            have ew2 : IntKind.i64.wrap (fq + tq) = fq + tq := wrapI (by omega)
            clear hq hlt hw htq hfq hz hdgo hd04 hfi hb1 e5 h4 hsum
            go_wp2_with fail
            go_quiet (fail)
            go_wp2_with fail
            go_roundw
            case rel => exact ⟨I + 1, by go_num, by omega, hgu2.drewN _⟩
            case measure => simp [intOf]; omega
    · have hIe : ¬ (I : Int) < (N : Int) := by omega
      go_wp2_with fail
      refine (told10_any _).mono ?_
      rintro e z1 ⟨rfl, hgz⟩
      go_wp2_with fail
      go_ret
      exact ⟨rfl, (hgr.trans hgu).trans hgz⟩
end Go.Proofs.Ytlnbolaaaahoaaa
