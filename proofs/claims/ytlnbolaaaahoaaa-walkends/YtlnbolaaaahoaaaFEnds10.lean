/- WalkEnds's walk: it answers true at every input. No condition. -/
import Derived.Test.YtlnbolaaaahoaaaFTold10
import Derived.Test.YtlnbolaaaahoaaaFBest10
import Derived.Deep.RegionHeld3
import Derived.Deep.CutRange
namespace Go.Proofs.Ytlnbolaaaahoaaa
open Go.RowKit
set_option maxRecDepth 20000

theorem SlI.congr {w : World} {a : Option Addr} {n : Nat} {f g : Nat → Int} (h : SlI w a n f) (e : ∀ i, i < n → f i = g i) : SlI w a n g := by
  rcases h with h | ⟨b, o, q, hb, hc⟩
  · exact .inl h
  · exact .inr ⟨b, o, q, hb, fun i hi => by rw [← e i hi]; exact hc i hi⟩
theorem paid_bd {t : Nat → Int} {P : Nat → Nat} {n : Nat} (ht : ∀ i, i < n → 0 ≤ t i ∧ t i ≤ 255) : ∀ k, (∀ i, i ≤ k → P i < n) → 0 ≤ paidF t P k ∧ paidF t P k ≤ 255 * (k : Int)
  | 0, _ => by unfold paidF; omega
  | k + 1, h => by
    have ih := paid_bd ht k fun i hi => h i (by omega)
    have := ht _ (h (k + 1) (by omega))
    unfold paidF
    omega

set_option maxHeartbeats 3000000 in
theorem walkEnds_any (x y : Int) (ad : Option Addr) (n cap : Nat) (f : Nat → Int) (ak : Option Addr) (m kc : Nat) (z : Nat → Int) (cl : Int) (w : World) (h : Sl w ad n f) (hn : n ≤ maxLen) (hk : SlI w ak m z) (hkm : m ≤ kc ∧ kc ≤ maxLen) (hkn : ak = none → m = 0 ∧ kc = 0) :
    Calls Try.prog 7 #[.int .i64 x, .int .i64 y, .slice ad n cap, .slice ak m kc, .int .i64 cl] w fun e w' => e = .returned (.bool true) ∧ Gr w w' := by
  unfold maxLen at hn
  go_enter Try.func7, Try.ntmps7
  go_wp2_with fail
  refine (madeTile_any _ _ _ _ _ f _ h (by unfold maxLen; omega)).mono ?_
  rintro e w1 ⟨⟨g, c', N, rfl, hN, hown⟩, hg1⟩
  have hm := made_may h.byte hN
  generalize withinF x 1 16 = W at *
  generalize withinF y 1 16 = H at *
  generalize madeF n f = t at *
  obtain ⟨-, -, -, -, hsl⟩ := hown.sl
  have n1 := (mayTB_n hm).1
  have n2 := (mayTB_n hm).2.1
  clear hown hN h hn
  obtain ⟨c1, c2, c3⟩ := tri_at w1 W H (.slice (some ⟨g, 0, none⟩) N c')
  obtain ⟨u1, hu1⟩ : ∃ u1, u1 = w1.alloc (.cells #[.int .i64 W, .int .i64 H, .slice (some ⟨g, 0, none⟩) N c'] 24) := ⟨_, rfl⟩
  have hgu : Gr w1 u1 := hu1 ▸ (Gr.refl w1).alloc _
  rw [← hu1] at c1 c2 c3
  go_upto_region 2 with fail
  rw [← hu1]
  clear hu1
  generalize w1.heap.size = BX at *
  replace hsl := hsl.gr hgu
  have hgr := hg1.trans hgu
  replace hk := hk.gr hgr
  clear hg1 hgu
  go_region_held3 (fun u => u.cell? ⟨BX, 0, none⟩ = some (.int .i64 W) ∧ u.cell? ⟨BX, 1, none⟩ = some (.int .i64 H) ∧ u.cell? ⟨BX, 2, none⟩ = some (.slice (some ⟨g, 0, none⟩) N c')) (first | exact ⟨c1, c2, c3⟩ | exact ⟨cell_gr c1 hg9, cell_gr c2 hg9, cell_gr c3 hg9⟩) (first
    | (go_at_call 12; refine (few10_any ak m kc z _ (hk.gr ((Gr.refl u1).drew)) hkm.1 hkm.2 hkn).mono ?_; rintro e w3 ⟨⟨k, k24, kn, rfl, hki⟩, hg3⟩; have hg9 : Gr u1 w3 := ((Gr.refl u1).drew).trans hg3)
    | (go_at_call 11; refine (xseeds_any W H _ N c' t ak k kc z _ (hsl.gr hg9) n1 (by omega) hki (by omega)).mono ?_; rintro e w4 ⟨⟨a2, cc2, k2, M, rfl, kM, HM, hown⟩, hg4⟩; have hg9 : Gr u1 w4 := (((Gr.refl u1).drew).trans hg3).trans hg4))
  have hmay : mayS W H N t M = true := mayS_ok hm hsl.byte HM.out.2
  obtain ⟨-, hsd⟩ := sds_of hsl.byte hmay
  have HOUT := hide (outs_of hsl.byte hmay)
  have hpl := plain_own hown
  have HS0 : SlS w4 a2 k2 cc2 M := sls_own hown HM.out.1
  replace c1 := cell_gr c1 hg9
  replace c2 := cell_gr c2 hg9
  replace c3 := cell_gr c3 hg9
  replace hsl := hsl.gr hg9
  replace hgr := hgr.trans hg9
  clear hown hki hg3 hg4 hg9 hk
  have k2s : k2 ≤ 24 := by omega
  go_wp2_with fail
  refine (field_yes hsl HS0 hpl hmay hsd (by omega) (by omega) (by omega)).mono ?_
  rintro e w5 ⟨⟨gf, cf, gd, F, D, rfl, hfar, hdir, hsp, hD⟩, hg5⟩
  replace c1 := cell_gr c1 hg5
  replace c2 := cell_gr c2 hg5
  replace c3 := cell_gr c3 hg5
  replace hsl := hsl.gr hg5
  replace hgr := hgr.trans hg5
  replace HS0 := HS0.gr hg5
  have hr := pair_alloc w5 (.slice (some ⟨gf, 0, none⟩) N cf) (.slice (some ⟨gd, 0, none⟩) N N) 33
  obtain ⟨w6, hw6⟩ : ∃ w6, w6 = w5.alloc (.cells #[.slice (some ⟨gf, 0, none⟩) N cf, .slice (some ⟨gd, 0, none⟩) N N] 33) := ⟨_, rfl⟩
  have g6 : Gr w5 w6 := hw6 ▸ (Gr.refl w5).alloc _
  rw [← hw6] at hr
  replace c1 := cell_gr c1 g6
  replace c2 := cell_gr c2 g6
  replace c3 := cell_gr c3 g6
  replace hsl := hsl.gr g6
  replace hgr := hgr.trans g6
  replace HS0 := HS0.gr g6
  replace hfar := hfar.gr g6
  replace hdir := hdir.gr g6
  obtain ⟨d1, d2, -, -⟩ := pair_at hr
  go_upto_region 4 with fail
  rw [← hw6]
  clear hw6 g6 hr hg5
  generalize w5.heap.size = BF at *
  have hgph := gph_of hm hsl.byte
  have hpos : ∀ i, i < N → 0 ≤ F i ∧ F i ≤ 1099511627776 := fun i hi => ⟨hsp.pos hgph hsd hi, hsp.top i hi⟩
  have htb : ∀ i, i < N → w6.cell? ⟨g, i, none⟩ = some (.int .u8 (t i)) := fun i hi => by
    obtain ⟨b, o, e, -, hc⟩ := hsl.at (by omega)
    cases e
    have := hc i hi
    rwa [Nat.zero_add] at this
  have hfc : ∀ i, i < N → w6.cell? ⟨gf, i, none⟩ = some (.int .i64 (F i)) := fun i hi => hfar.cell hi
  have hdc : ∀ i, i < N → w6.cell? ⟨gd, i, none⟩ = some (.int .i64 (D i)) := fun i hi => hdir.cell hi
  have hN0 : (N : Int) = N := rfl
  have HSP := hide hsp
  have HPOS := hide hpos
  have HTB := hide htb
  have HFC := hide hfc
  have HDC := hide hdc
  have HSD := hide hsd
  have HD := hide hD
  have HG := hide hgph
  have HSF := hide hfar.sli
  have HSG := hide hdir.sli
  clear hsp hpos htb hfc hdc hmay hfar hdir hsd hN0 hD hgph
  obtain ⟨A, hA⟩ : ∃ A : Nat, withinF cl 0 ((N : Int) - 1) = (A : Int) := ⟨_, (Int.toNat_of_nonneg (within_bd cl 0 ((N : Int) - 1) (by omega)).1).symm⟩
  have hAn : A < N := by
    have := (within_bd cl 0 ((N : Int) - 1) (by omega)).2
    omega
  have HA := hide hA
  clear hA
  have hw1 : IntKind.i64.wrap ((N : Int) - 1) = (N : Int) - 1 := wrapI (by omega)
  go_wp2_with fail
  refine (within_any cl 0 ((N : Int) - 1) _ (by omega) (by omega) (by omega)).mono ?_
  rintro e w7 ⟨rfl, hd7⟩
  rw [HA.out]
  have hg7 : Gr w6 w7 := hd7.gr
  have An : (A : Int) < (N : Int) := by omega
  have A0 : (0 : Int) ≤ (A : Int) := by omega
  clear hd7 hw1 HA
  have xf := cell_gr (HFC.out A hAn) hg7
  have HSW := hide (SlI.congr HSG.out HD.out)
  have hwa := walk_yes (cap := c') (ad := some ⟨gf, 0, none⟩) (cd := cf) (ce := N) (hsl.gr hg7) hm hAn (HSW.out.gr hg7)
  have HWA := hide hwa
  have l1 := cell_gr c1 hg7
  have l2 := cell_gr c2 hg7
  have l3 := cell_gr c3 hg7
  have l4 := cell_gr d1 hg7
  have l5 := cell_gr d2 hg7
  clear hwa
  go_wp2_with fail
  clear l1 l2 l3 l4 l5
  refine HWA.out.mono ?_
  rintro e w8 ⟨⟨j, a, c, rfl, hwent, hsw, -⟩, hg8⟩
  have hg78 := hg7.trans hg8
  replace xf := cell_gr xf hg8
  have q1 := cell_gr d1 hg78
  have q0 := cell_gr c3 hg78
  obtain ⟨b3, o3, rfl, hb3, hcell⟩ := hsw.at (by omega)
  have x0 := hcell 0 (by omega)
  rw [Nat.add_zero] at x0
  have x0' : w8.cell? ⟨b3, o3, none⟩ = some (.int .i64 (A : Int)) := x0
  have HCW := hide hcell
  have HWE := hide hwent
  have hjN := hwent.le
  clear x0 hcell hsw hwent HWA hg8 HSW
  by_cases hF : F A = 1099511627776
  · have hd5 : dirF (nearF W H N t) t F M A = 5 := dir_none hF
    have hj0 : j = 0 := by
      have : Went (nearF W H N t) (dirF (nearF W H N t) t F M) N A 0 := ⟨fun i hi => absurd hi (Nat.not_lt_zero _), .inr (by
        show hopF _ _ A < 0
        unfold hopF
        rw [hd5, if_neg (by omega)]
        omega), by omega⟩
      exact HWE.out.uniq this
    subst hj0
    rw [show dirF (nearF W H N t) t F M (posF (nearF W H N t) (dirF (nearF W H N t) t F M) A 0) = 5 from hd5]
    rw [hF] at xf
    clear hF hd5 HWE
    go_wp2_with fail
    refine (told10_any _).mono ?_
    rintro e z1 ⟨rfl, hgz⟩
    go_wp2_with fail
    go_ret
    exact ⟨rfl, (hgr.trans hg78).trans hgz⟩
  · have hdown := fun k (hk : k ≤ j) => down HG.out HSD.out HOUT.out HSP.out hAn hF k (fun i hi => HWE.out.on i (by omega))
    obtain ⟨hd5, hbest⟩ := down_end HG.out HSD.out HOUT.out HSP.out hAn hF HWE.out
    obtain ⟨dw, hdw⟩ : ∃ dw, dw = dirF (nearF W H N t) t F M (posF (nearF W H N t) (dirF (nearF W H N t) t F M) A j) := ⟨_, rfl⟩
    rw [← hdw] at hd5 hbest ⊢
    obtain ⟨P, hP⟩ : ∃ P : Nat → Nat, P = posF (nearF W H N t) (dirF (nearF W H N t) t F M) A := ⟨_, rfl⟩
    rw [← hP] at hdown hbest HCW
    have hP0 : P 0 = A := by rw [hP]; rfl
    have hPN : ∀ k, k ≤ j → P k < N := fun k hk => (hdown k hk).1.1
    have hsum := (hdown j (Nat.le_refl _)).2.1
    have hlt : ∀ k, k < j → F (P (k + 1)) < F (P k) := fun k hk => (hdown j (Nat.le_refl _)).2.2.2 k hk
    have HPN := hide hPN
    have HLT := hide hlt
    have HSUM := hide hsum
    have HP0 := hide hP0
    have HPB : Hid (∀ k, k ≤ j → 0 ≤ paidF t P k ∧ paidF t P k ≤ 255 * (k : Int)) := hide (fun k hk => paid_bd hsl.byte k (fun i hi => hPN i (by omega)))
    have HBEST := hide hbest
    have ed5 : (dw != 5) = true := by simpa using hd5
    have hfA := HPOS.out A hAn
    have hnf : decide ((1099511627776 : Int) ≤ F A) = false := by simp; omega
    clear hdown hdw hP hP0 hPN hsum hlt hbest HWE hd5 hF hfA
    obtain ⟨fA, hfA⟩ : ∃ fA, fA = F A := ⟨_, rfl⟩
    have HFA := hide hfA
    rw [← hfA] at xf hnf
    clear hfA
    have HNF := hide hnf
    go_wp2_with fail
    try rw [HNF.out]
    have hj1 : ((j : Int) + 1 == 0) = false := by simp; omega
    rw [hj1]
    clear HNF hnf hj1
    go_loopw [18, 19] (fun pv nv u => ∃ (k K : Nat), Hid (K = k + 1) ∧ nv = .int .i64 K ∧ pv = .int .i64 (paidF t P k) ∧ k ≤ j ∧ Gr w8 u) (fun _ nv _ => j + 1 - (intOf nv).toNat)
    case atStart => exact ⟨0, 1, hide rfl, rfl, rfl, by omega, Gr.refl _⟩
    case round =>
      obtain ⟨k, K, HK, rfl, rfl, hk, hgu⟩ := hrel
      generalize wr = w9 at *
      replace q0 := cell_gr q0 hgu
      replace q1 := cell_gr q1 hgu
      have hpb := HPB.out k hk
      by_cases hkj : k < j
      · have hKi : (K : Int) < (j : Int) + 1 := by have := HK.out; omega
        have hK0 : (0 : Int) ≤ (K : Int) := by omega
        have hKN : (K : Int) ≤ 256 := by have := HK.out; omega
        have hkw : IntKind.i64.wrap ((K : Int) - 1) = (k : Int) := by
          have := HK.out
          rw [show (K : Int) - 1 = (k : Int) by omega]
          exact wrapI (by omega)
        have hk0 : (0 : Int) ≤ (k : Int) := by omega
        have hki : (k : Int) < (j : Int) + 1 := by omega
        have y1 := cell_gr (HCW.out K (by have := HK.out; omega)) hgu
        have y0 := cell_gr (HCW.out k (by omega)) hgu
        have a1N : P K < N := HPN.out K (by have := HK.out; omega)
        have a0N := HPN.out k hk
        have flt : F (P K) < F (P k) := by have := HLT.out k hkj; rw [HK.out]; exact this
        have hpay : paidF t P (k + 1) = paidF t P k + t (P K) := by rw [HK.out]; rfl
        obtain ⟨a1, ha1⟩ : ∃ a1, a1 = P K := ⟨_, rfl⟩
        obtain ⟨a0, ha0⟩ : ∃ a0, a0 = P k := ⟨_, rfl⟩
        rw [← ha1] at y1 a1N flt hpay
        rw [← ha0] at y0 a0N flt
        have f1 := cell_gr (HFC.out a1 a1N) (hg78.trans hgu)
        have f0 := cell_gr (HFC.out a0 a0N) (hg78.trans hgu)
        have t1 := cell_gr (HTB.out a1 a1N) (hg78.trans hgu)
        have tb := hsl.byte a1 a1N
        obtain ⟨v1, hv1⟩ : ∃ v1, v1 = F a1 := ⟨_, rfl⟩
        obtain ⟨v0, hv0⟩ : ∃ v0, v0 = F a0 := ⟨_, rfl⟩
        obtain ⟨tv, htv⟩ : ∃ tv, tv = t a1 := ⟨_, rfl⟩
        rw [← hv1] at f1 flt
        rw [← hv0] at f0 flt
        rw [← htv] at t1 tb hpay
        have HPAY := hide hpay
        have HFLT := hide flt
        obtain ⟨pd, hpd⟩ : ∃ pd, pd = paidF t P k := ⟨_, rfl⟩
        rw [← hpd] at hpb HPAY ⊢
        have ew1 : IntKind.i64.wrap tv = tv := wrapI (by omega)
        have ew2 : IntKind.i64.wrap (pd + tv) = pd + tv := wrapI (by omega)
        have a10 : (0 : Int) ≤ (a1 : Int) := by omega
        have a00 : (0 : Int) ≤ (a0 : Int) := by omega
        have a1i : (a1 : Int) < (N : Int) := by omega
        have a0i : (a0 : Int) < (N : Int) := by omega
        clear ha1 ha0 hv1 hv0 htv hpd hpay flt
        go_wp2_with fail
        have z1 : decide ((a1 : Int) < 0) = false := by simp
        have z2 : decide ((N : Int) ≤ (a1 : Int)) = false := by simp; omega
        have z3 : decide (v0 ≤ v1) = false := by have := HFLT.out; simp; omega
        go_quiet (fail)
        go_wp2_with fail
        go_quiet (fail)
        go_wp2_with fail
        go_roundw
        case rel => exact ⟨k + 1, K + 1, hide (by have := HK.out; omega), by go_num, by rw [HPAY.out], by omega, hgu.drewN _⟩
        case measure => simp [intOf]; omega
      · obtain rfl : k = j := by omega
        have hKi : ¬ (K : Int) < (k : Int) + 1 := by have := HK.out; omega
        have hkw : IntKind.i64.wrap ((k : Int) + 1 - 1) = (k : Int) := by
          rw [show (k : Int) + 1 - 1 = (k : Int) by omega]
          exact wrapI (by omega)
        have y0 := cell_gr (HCW.out k (by omega)) hgu
        have a0N := HPN.out k hk
        have hsum := HSUM.out
        have hbest := HBEST.out
        obtain ⟨a0, ha0⟩ : ∃ a0, a0 = P k := ⟨_, rfl⟩
        rw [← ha0] at y0 a0N hsum hbest
        have f0 := cell_gr (HFC.out a0 a0N) (hg78.trans hgu)
        have fb := HPOS.out a0 a0N
        have xf2 := cell_gr xf hgu
        obtain ⟨v0, hv0⟩ : ∃ v0, v0 = F a0 := ⟨_, rfl⟩
        rw [← hv0] at f0 fb hsum hbest
        obtain ⟨pd, hpd⟩ : ∃ pd, pd = paidF t P k := ⟨_, rfl⟩
        rw [← hpd] at hpb hsum ⊢
        have hfA : fA = v0 + pd := by rw [HFA.out]; exact hsum.symm
        subst hfA
        have ew2 : IntKind.i64.wrap (v0 + pd) = v0 + pd := wrapI (by omega)
        have a00 : (0 : Int) ≤ (a0 : Int) := by omega
        have a0i : (a0 : Int) < (N : Int) := by omega
        have HB := hide hbest
        clear ha0 hv0 hpd hsum hbest xf
        go_wp2_with fail
        go_region_held3 (fun u => u.cell? ⟨BF, 0, none⟩ = some (.slice (some ⟨gf, 0, none⟩) N cf) ∧ u.cell? ⟨gf, a0, none⟩ = some (.int .i64 v0) ∧ u.cell? ⟨gf, A, none⟩ = some (.int .i64 (v0 + pd)) ∧ Gr w9 u) (first | exact ⟨q1, f0, xf2, (Gr.refl w9).drew⟩ | exact ⟨cell_gr hS.1 hg9, cell_gr hS.2.1 hg9, cell_gr hS.2.2.1 hg9, hS.2.2.2.trans hg9⟩)
          (first | (go_at_call 8; have hS := ‹_ ∧ _ ∧ _ ∧ Gr _ _›; refine (told10_any _).mono ?_; rintro e z1 ⟨rfl, hg9⟩) | (go_at_call 18; have hS := ‹_ ∧ _ ∧ _ ∧ Gr _ _›; refine (rbest_any a2 k2 cc2 M (a0 : Int) dw _ ((HS0.gr (hg78.trans hgu)).gr hS.2.2.2)).mono ?_; rintro e z2 ⟨rfl, hg9⟩; rw [HB.out]))
        go_wp2_with fail
        go_ret
        exact ⟨rfl, (((hgr.trans hg78).trans hgu).trans hS.2.2.2).trans hg9⟩
end Go.Proofs.Ytlnbolaaaahoaaa
