/- SpreadFixed's walk: it answers true at every input. No condition. -/
import Derived.Test.YtigoehoaplndiaaXFew9
import Derived.Deep.RegionHeld3
namespace Go.Proofs.Ytigoehoaplndiaa
open Go.RowKit
set_option maxRecDepth 20000

set_option maxHeartbeats 8000000 in
theorem spreadFixed_any (x y : Int) (ad : Option Addr) (n cap : Nat) (f : Nat → Int) (ak : Option Addr) (m kc : Nat) (z : Nat → Int) (w : World) (h : Sl w ad n f) (hn : n ≤ maxLen) (hk : SlI w ak m z) (hkm : m ≤ kc ∧ kc ≤ maxLen) (hkn : ak = none → m = 0 ∧ kc = 0) :
    Calls Try.prog 4 #[.int .i64 x, .int .i64 y, .slice ad n cap, .slice ak m kc] w fun e w' => e = .returned (.bool true) ∧ Gr w w' := by
  unfold maxLen at hn
  go_enter Try.func4, Try.ntmps4
  go_wp2_with fail
  refine (madeTile_any _ _ _ _ _ f _ h (by unfold maxLen; omega)).mono ?_
  rintro e w1 ⟨⟨g, c', N, rfl, hN, hown⟩, hg1⟩
  have hm := made_may h.byte hN
  generalize withinF x 1 16 = W at *
  generalize withinF y 1 16 = H at *
  generalize madeF n f = t at *
  obtain ⟨-, -, -, -, hsl⟩ := hown.sl
  have n1 := (mayTB_n hm).1
  have n2 := (mayTB_n hm).2.1
  clear hown hN h hn
  obtain ⟨c1, c2, c3⟩ := tri_at w1 W H (.slice (some ⟨g, 0, none⟩) N c')
  obtain ⟨u1, hu1⟩ : ∃ u1, u1 = w1.alloc (.cells #[.int .i64 W, .int .i64 H, .slice (some ⟨g, 0, none⟩) N c'] 24) := ⟨_, rfl⟩
  have hgu : Gr w1 u1 := hu1 ▸ (Gr.refl w1).alloc _
  rw [← hu1] at c1 c2 c3
  go_upto_region 2 with fail
  rw [← hu1]
  clear hu1
  generalize w1.heap.size = BX at *
  replace hsl := hsl.gr hgu
  have hgr := hg1.trans hgu
  replace hk := hk.gr hgr
  clear hg1 hgu
  go_region_held3 (fun u => u.cell? ⟨BX, 0, none⟩ = some (.int .i64 W) ∧ u.cell? ⟨BX, 1, none⟩ = some (.int .i64 H) ∧ u.cell? ⟨BX, 2, none⟩ = some (.slice (some ⟨g, 0, none⟩) N c')) (first | exact ⟨c1, c2, c3⟩ | exact ⟨cell_gr c1 hg9, cell_gr c2 hg9, cell_gr c3 hg9⟩) (first
    | (go_at_call 12; refine (few9_any ak m kc z _ (hk.gr ((Gr.refl u1).drew)) hkm.1 hkm.2 hkn).mono ?_; rintro e w3 ⟨⟨k, k24, kn, rfl, hki⟩, hg3⟩; have hg9 : Gr u1 w3 := ((Gr.refl u1).drew).trans hg3)
    | (go_at_call 11; refine (xseeds_any W H _ N c' t ak k kc z _ (hsl.gr hg9) n1 (by omega) hki (by omega)).mono ?_; rintro e w4 ⟨⟨a2, cc2, k2, M, rfl, kM, HM, hown⟩, hg4⟩; have hg9 : Gr u1 w4 := (((Gr.refl u1).drew).trans hg3).trans hg4))
  have hmay : mayS W H N t M = true := mayS_ok hm hsl.byte HM.out.2
  obtain ⟨-, hsd⟩ := sds_of hsl.byte hmay
  have hpl := plain_own hown
  have HS0 : SlS w4 a2 k2 cc2 M := sls_own hown HM.out.1
  replace c1 := cell_gr c1 hg9
  replace c2 := cell_gr c2 hg9
  replace c3 := cell_gr c3 hg9
  replace hsl := hsl.gr hg9
  replace hgr := hgr.trans hg9
  clear hown hki hg3 hg4 hg9 hk
  have k2s : k2 ≤ 24 := by omega
  go_wp2_with fail
  refine (spread_yes hsl HS0 hpl hmay hsd (by omega) (by omega) (by omega)).mono ?_
  rintro e w5 ⟨⟨gf, cf, F, rfl, -, hfar, hsp, -⟩, hg5⟩
  replace c1 := cell_gr c1 hg5
  replace c2 := cell_gr c2 hg5
  replace c3 := cell_gr c3 hg5
  replace hsl := hsl.gr hg5
  replace hgr := hgr.trans hg5
  replace HS0 := HS0.gr hg5
  have hgph := gph_of hm hsl.byte
  have hpos : ∀ i, i < N → 0 ≤ F i ∧ F i ≤ 1099511627776 := fun i hi => ⟨hsp.pos hgph hsd hi, hsp.top i hi⟩
  have htb : ∀ i, i < N → w5.cell? ⟨g, i, none⟩ = some (.int .u8 (t i)) := fun i hi => by
    obtain ⟨b, o, e, -, hc⟩ := hsl.at (by omega)
    cases e
    have := hc i hi
    rwa [Nat.zero_add] at this
  have hfc : ∀ i, i < N → w5.cell? ⟨gf, i, none⟩ = some (.int .i64 (F i)) := fun i hi => hfar.cell hi
  have hN0 : (N : Int) = N := rfl
  have HSP := hide hsp
  have HPOS := hide hpos
  have HTB := hide htb
  have HFC := hide hfc
  have HSD := hide hsd
  clear hsp hpos htb hfc hg5 hmay hfar hsd hN0
  go_wp2_with fail
  go_loopw [13] (fun iv u => ∃ I : Nat, iv = .int .i64 I ∧ I ≤ N ∧ Gr w5 u) (fun iv _ => N - (intOf iv).toNat)
  case atStart => exact ⟨0, rfl, by omega, Gr.refl _⟩
  case round =>
    obtain ⟨I, rfl, hI, hgu⟩ := hrel
    generalize wr = w6 at *
    have hgr6 := hgr.trans hgu
    by_cases hIN : I < N
    · have hIi : (I : Int) < (N : Int) := by omega
      go_wp2_with fail
      go_loopw [14, 15] (fun lv jv u => ∃ (l : Int) (J : Nat), lv = .int .i64 l ∧ jv = .int .i64 J ∧ J ≤ k2 ∧ Hid ((t I ≠ 255 → F I ≤ l) ∧ l ≤ 1099511627776 ∧ ∀ j, j < J → (el M j).1 = (I : Int) → l ≤ (el M j).2.2) ∧ Gr w6 u) (fun _ jv _ => k2 - (intOf jv).toNat)
      case atStart => exact ⟨1099511627776, 0, rfl, rfl, by omega, hide ⟨fun _ => (HPOS.out I hIN).2, by omega, fun j hj => absurd hj (Nat.not_lt_zero _)⟩, Gr.refl _⟩
      case round =>
        obtain ⟨l, J, rfl, rfl, hJ, HL, hgj⟩ := hrel
        generalize wr = w7 at *
        have hg57 := hgu.trans hgj
        by_cases hJk : J < k2
        · have hJi : (J : Int) < (k2 : Int) := by omega
          obtain ⟨bs, os, rfl, -, hcs⟩ := HS0.at (by omega)
          obtain ⟨x1, -, x3⟩ := hcs J hJk
          replace x1 := cell_gr x1 hg57
          replace x3 := cell_gr x3 hg57
          have hmem : el M J ∈ M := el_mem (by have := HM.out.1; omega)
          have hlow : (el M J).1 = (I : Int) → F I ≤ (el M J).2.2 := fun e => HSP.out.seed hmem e
          obtain ⟨q1, hq1⟩ : ∃ q1, q1 = (el M J).1 := ⟨_, rfl⟩
          obtain ⟨q3, hq3⟩ : ∃ q3, q3 = (el M J).2.2 := ⟨_, rfl⟩
          have HQ1 := hide hq1
          have HQ3 := hide hq3
          rw [← hq1] at x1 hlow
          rw [← hq3] at x3 hlow
          clear hcs hmem hq1 hq3
          by_cases hqI : q1 = (I : Int)
          · have HN : Hid ((t I ≠ 255 → F I ≤ min l q3) ∧ min l q3 ≤ 1099511627776 ∧ ∀ j, j < J + 1 → (el M j).1 = (I : Int) → min l q3 ≤ (el M j).2.2) := hide (by
              obtain ⟨a1, a2, a3⟩ := HL.out
              refine ⟨fun e => by have := a1 e; have := hlow hqI; omega, by omega, fun j hj e => ?_⟩
              by_cases ej : j = J
              · subst ej
                rw [← HQ3.out]
                omega
              · have := a3 j (by omega) e
                omega)
            clear hlow
            have HE := hide hqI
            clear hqI
            rw [HE.out] at x1
            go_wp2_with fail
            go_roundw
            case rel => exact ⟨min l q3, J + 1, rfl, by go_num, by omega, HN, hgj⟩
            case measure => simp [intOf]; omega
          · have eq1 : (q1 == (I : Int)) = false := by simpa using hqI
            have HN : Hid ((t I ≠ 255 → F I ≤ l) ∧ l ≤ 1099511627776 ∧ ∀ j, j < J + 1 → (el M j).1 = (I : Int) → l ≤ (el M j).2.2) := hide (by
              obtain ⟨a1, a2, a3⟩ := HL.out
              refine ⟨a1, a2, fun j hj e => ?_⟩
              by_cases ej : j = J
              · subst ej
                exact absurd (HQ1.out.trans e) hqI
              · exact a3 j (by omega) e)
            clear hlow hqI
            go_wp2_with fail
            go_roundw
            case rel => exact ⟨l, J + 1, rfl, by go_num, by omega, HN, hgj⟩
            case measure => simp [intOf]; omega
        · have hJe : ¬ (J : Int) < (k2 : Int) := by omega
          have HL2 : Hid ((t I ≠ 255 → F I ≤ l) ∧ l ≤ 1099511627776 ∧ ∀ x, x ∈ M → x.1 = (I : Int) → l ≤ x.2.2) := hide (by
            obtain ⟨a1, a2, a3⟩ := HL.out
            refine ⟨a1, a2, fun x hx e => ?_⟩
            obtain ⟨j, hj, rfl⟩ := mem_el hx
            exact a3 j (by have := HM.out.1; omega) e)
          clear HL
          go_wp2_with fail
          go_loopw [14, 16] (fun lv sv u => ∃ (l : Int) (S : Nat), lv = .int .i64 l ∧ sv = .int .i64 S ∧ S ≤ 4 ∧ Hid ((t I ≠ 255 → F I ≤ l) ∧ l ≤ 1099511627776 ∧ (∀ x, x ∈ M → x.1 = (I : Int) → l ≤ x.2.2) ∧ ∀ (s : Int) (m : Nat), 0 ≤ s → s < (S : Int) → nearF W H N t (I : Int) s = (m : Int) → m < N → t m ≠ 255 → l ≤ F m + t m) ∧ Gr w7 u) (fun _ sv _ => 4 - (intOf sv).toNat)
          case atStart => exact ⟨l, 0, rfl, rfl, by omega, hide ⟨HL2.out.1, HL2.out.2.1, HL2.out.2.2, fun s m a b => by omega⟩, Gr.refl _⟩
          case round =>
            clear HL2
            obtain ⟨l, S, rfl, rfl, hS, HL, hgs⟩ := hrel
            generalize wr = w8 at *
            have hg58 := hg57.trans hgs
            have d1 := cell_gr c1 hg58
            have d2 := cell_gr c2 hg58
            have d3 := cell_gr c3 hg58
            have hsl8 := hsl.gr hg58
            by_cases hS4 : S < 4
            · have hSi : (S : Int) ≤ 3 := by omega
              go_wp2_with fail
              refine (rnear_any W H _ N c' t (I : Int) (S : Int) w8 hsl8).mono ?_
              rintro e w9 ⟨rfl, hg9⟩
              replace d3 := cell_gr d3 hg9
              have hg59 := hg58.trans hg9
              have hgs9 := hgs.trans hg9
              clear hsl8 d1 d2 hg58
              rcases near_cases W H N t I S with hz | ⟨b, hz⟩
              · have HN : Hid ((t I ≠ 255 → F I ≤ l) ∧ l ≤ 1099511627776 ∧ (∀ x, x ∈ M → x.1 = (I : Int) → l ≤ x.2.2) ∧ ∀ (s : Int) (m : Nat), 0 ≤ s → s < ((S + 1 : Nat) : Int) → nearF W H N t (I : Int) s = (m : Int) → m < N → t m ≠ 255 → l ≤ F m + t m) := hide (by
                  obtain ⟨a1, a2, a3, a4⟩ := HL.out
                  refine ⟨a1, a2, a3, fun s m b0 b1 e b2 b3 => ?_⟩
                  by_cases es : s = (S : Int)
                  · subst es; omega
                  · exact a4 s m b0 (by omega) e b2 b3)
                generalize nearF W H N t I S = nv at *
                have hz' : ¬ (0 : Int) ≤ nv := by omega
                go_wp2_with fail
                go_roundw
                case rel => exact ⟨l, S + 1, rfl, by go_num, by omega, HN, hgs9⟩
                case measure => simp [intOf]; omega
              · obtain ⟨hbn, -⟩ := hgph.sym I b S (by omega) hSi hz hIN
                have hbi : (b : Int) < (N : Int) := by omega
                have hb0 : (0 : Int) ≤ (b : Int) := by omega
                have tb := cell_gr (HTB.out b hbn) hg59
                have fb := cell_gr (HFC.out b hbn) hg59
                have hfb := HPOS.out b hbn
                have htc := hgph.cost b hbn
                have HEDGE : Hid (t I ≠ 255 → t b ≠ 255 → F I ≤ F b + t b) := hide (fun e1 e2 => HSP.out.edge hgph hIN (by omega) hSi hz e1 e2)
                obtain ⟨vb, hvb⟩ : ∃ vb, vb = t b := ⟨_, rfl⟩
                obtain ⟨p, hp⟩ : ∃ p, p = F b := ⟨_, rfl⟩
                rw [← hvb] at tb htc
                rw [← hp] at fb hfb
                have HZ := hide hz
                have HVB := hide hvb
                have HP := hide hp
                rw [hz]
                clear hz hvb hp
                by_cases hb255 : vb = 255
                · have HN : Hid ((t I ≠ 255 → F I ≤ l) ∧ l ≤ 1099511627776 ∧ (∀ x, x ∈ M → x.1 = (I : Int) → l ≤ x.2.2) ∧ ∀ (s : Int) (m : Nat), 0 ≤ s → s < ((S + 1 : Nat) : Int) → nearF W H N t (I : Int) s = (m : Int) → m < N → t m ≠ 255 → l ≤ F m + t m) := hide (by
                    obtain ⟨a1, a2, a3, a4⟩ := HL.out
                    refine ⟨a1, a2, a3, fun s m b0 b1 e b2 b3 => ?_⟩
                    by_cases es : s = (S : Int)
                    · subst es
                      have := HZ.out
                      obtain rfl : m = b := by omega
                      exact absurd (HVB.out.symm.trans hb255) b3
                    · exact a4 s m b0 (by omega) e b2 b3)
                  have eb : (vb != 255) = false := by simp [hb255]
                  clear hb255
                  go_wp2_with fail
                  go_roundw
                  case rel => exact ⟨l, S + 1, rfl, by go_num, by omega, HN, hgs9⟩
                  case measure => simp [intOf]; omega
                · have HN : Hid ((t I ≠ 255 → F I ≤ min l (p + vb)) ∧ min l (p + vb) ≤ 1099511627776 ∧ (∀ x, x ∈ M → x.1 = (I : Int) → min l (p + vb) ≤ x.2.2) ∧ ∀ (s : Int) (m : Nat), 0 ≤ s → s < ((S + 1 : Nat) : Int) → nearF W H N t (I : Int) s = (m : Int) → m < N → t m ≠ 255 → min l (p + vb) ≤ F m + t m) := hide (by
                    obtain ⟨a1, a2, a3, a4⟩ := HL.out
                    have e1 := HVB.out
                    have e2 := HP.out
                    refine ⟨fun e => ?_, by omega, fun x hx e => ?_, fun s m b0 b1 e b2 b3 => ?_⟩
                    · have h1 := a1 e
                      have h2 := HEDGE.out e (by rw [← e1]; exact hb255)
                      omega
                    · have := a3 x hx e
                      omega
                    · by_cases es : s = (S : Int)
                      · subst es
                        have := HZ.out
                        obtain rfl : m = b := by omega
                        omega
                      · have := a4 s m b0 (by omega) e b2 b3
                        omega)
                  have eb : (vb != 255) = true := by simp [hb255]
                  have hwr1 : IntKind.i64.wrap vb = vb := wrapI (by omega)
                  have hwr2 : IntKind.i64.wrap (p + vb) = p + vb := wrapI (by omega)
                  clear hb255
                  go_upto_region 20 with fail
                  go_quiet (fail)
                  go_wp2_with fail
                  go_roundw
                  case rel => exact ⟨min l (p + vb), S + 1, rfl, by go_num, by omega, HN, hgs9.drewN _⟩
                  case measure => simp [intOf]; omega
            · have hSi : ¬ (S : Int) ≤ 3 := by omega
              have tI := cell_gr (HTB.out I hIN) hg58
              have fI := cell_gr (HFC.out I hIN) hg58
              have hgq := hgj.trans hgs
              obtain ⟨v, hv⟩ : ∃ v, v = t I := ⟨_, rfl⟩
              rw [← hv] at tI
              have HV := hide hv
              clear hv
              by_cases hv255 : v = 255
              · have hw0 : F I = 1099511627776 := HSP.out.wall HSD.out hIN (by rw [← HV.out]; exact hv255)
                rw [hw0] at fI
                have ev : (v == 255) = true := by simp [hv255]
                clear hw0 hv255
                go_wp2_with fail
                go_roundw
                case rel => exact ⟨I + 1, by go_num, by omega, hgu.trans hgq⟩
                case measure => simp [intOf]; omega
              · have hfix : F I = l := by
                  obtain ⟨a1, a2, a3, a4⟩ := HL.out
                  exact HSP.out.fixed hIN (a1 (by rw [← HV.out]; exact hv255)) a2 a3 (fun s m b0 b1 e b2 b3 => a4 s m b0 (by omega) e b2 b3)
                rw [hfix] at fI
                have hmin : min l 1099511627776 = l := by have := HL.out.2.1; omega
                have ev : (v == 255) = false := by simp [hv255]
                clear hfix hv255
                go_wp2_with fail
                go_roundw
                case rel => exact ⟨I + 1, by go_num, by omega, hgu.trans hgq⟩
                case measure => simp [intOf]; omega
    · have hIi : ¬ (I : Int) < (N : Int) := by omega
      go_wp2_with fail
      refine (told9_any _).mono ?_
      rintro e z1 ⟨rfl, hgz⟩
      go_wp2_with fail
      go_ret
      exact ⟨rfl, (hgr6).trans hgz⟩
end Go.Proofs.Ytigoehoaplndiaa
