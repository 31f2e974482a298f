/- SpreadParts's walk: it answers true at every input. No condition. -/
import Derived.Test.YtigoehoaplndiaaXFew9
import Derived.Deep.RegionHeld3
namespace Go.Proofs.Ytigoehoaplndiaa
open Go.RowKit
set_option maxRecDepth 20000

set_option maxHeartbeats 8000000 in
theorem spreadParts_any (x y : Int) (ad : Option Addr) (n cap : Nat) (f : Nat → Int) (ak : Option Addr) (m kc : Nat) (z : Nat → Int) (cu : Int) (w : World) (h : Sl w ad n f) (hn : n ≤ maxLen) (hk : SlI w ak m z) (hkm : m ≤ kc ∧ kc ≤ maxLen) (hkn : ak = none → m = 0 ∧ kc = 0) :
    Calls Try.prog 5 #[.int .i64 x, .int .i64 y, .slice ad n cap, .slice ak m kc, .int .i64 cu] w fun e w' => e = .returned (.bool true) ∧ Gr w w' := by
  unfold maxLen at hn
  go_enter Try.func5, Try.ntmps5
  go_wp2_with fail
  refine (madeTile_any _ _ _ _ _ f _ h (by unfold maxLen; omega)).mono ?_
  rintro e w1 ⟨⟨g, c', N, rfl, hN, hown⟩, hg1⟩
  have hm := made_may h.byte hN
  generalize withinF x 1 16 = W at *
  generalize withinF y 1 16 = H at *
  generalize madeF n f = t at *
  obtain ⟨-, -, -, -, hsl⟩ := hown.sl
  have n1 := (mayTB_n hm).1
  have n2 := (mayTB_n hm).2.1
  clear hown hN h hn
  obtain ⟨c1, c2, c3⟩ := tri_at w1 W H (.slice (some ⟨g, 0, none⟩) N c')
  obtain ⟨u1, hu1⟩ : ∃ u1, u1 = w1.alloc (.cells #[.int .i64 W, .int .i64 H, .slice (some ⟨g, 0, none⟩) N c'] 24) := ⟨_, rfl⟩
  have hgu : Gr w1 u1 := hu1 ▸ (Gr.refl w1).alloc _
  rw [← hu1] at c1 c2 c3
  go_upto_region 2 with fail
  rw [← hu1]
  clear hu1
  generalize w1.heap.size = BX at *
  replace hsl := hsl.gr hgu
  have hgr := hg1.trans hgu
  replace hk := hk.gr hgr
  clear hg1 hgu
  go_region_held3 (fun u => u.cell? ⟨BX, 0, none⟩ = some (.int .i64 W) ∧ u.cell? ⟨BX, 1, none⟩ = some (.int .i64 H) ∧ u.cell? ⟨BX, 2, none⟩ = some (.slice (some ⟨g, 0, none⟩) N c')) (first | exact ⟨c1, c2, c3⟩ | exact ⟨cell_gr c1 hg9, cell_gr c2 hg9, cell_gr c3 hg9⟩) (first
    | (go_at_call 12; refine (few9_any ak m kc z _ (hk.gr ((Gr.refl u1).drew)) hkm.1 hkm.2 hkn).mono ?_; rintro e w3 ⟨⟨k, k24, kn, rfl, hki⟩, hg3⟩; have hg9 : Gr u1 w3 := ((Gr.refl u1).drew).trans hg3)
    | (go_at_call 11; refine (xseeds_any W H _ N c' t ak k kc z _ (hsl.gr hg9) n1 (by omega) hki (by omega)).mono ?_; rintro e w4 ⟨⟨a2, cc2, k2, M, rfl, kM, HM, hown⟩, hg4⟩; have hg9 : Gr u1 w4 := (((Gr.refl u1).drew).trans hg3).trans hg4))
  have hmay : mayS W H N t M = true := mayS_ok hm hsl.byte HM.out.2
  obtain ⟨-, hsd⟩ := sds_of hsl.byte hmay
  have hpl := plain_own hown
  have HS0 : SlS w4 a2 k2 cc2 M := sls_own hown HM.out.1
  replace c1 := cell_gr c1 hg9
  replace c2 := cell_gr c2 hg9
  replace c3 := cell_gr c3 hg9
  replace hsl := hsl.gr hg9
  replace hgr := hgr.trans hg9
  clear hown hki hg3 hg4 hg9 hk
  have k2s : k2 ≤ 24 := by omega
  obtain ⟨T, hT⟩ : ∃ T : Nat, withinF cu 0 (k2 : Int) = (T : Int) := ⟨_, (Int.toNat_of_nonneg (within_bd cu 0 (k2 : Int) (by omega)).1).symm⟩
  have hTk : T ≤ k2 := by
    have := (within_bd cu 0 (k2 : Int) (by omega)).2
    omega
  have hcc := HS0.len.2
  have hcm : cc2 ≤ 9223372036854775807 := by
    have := hcc.2
    unfold maxLen at this
    omega
  have hTi : (T : Int) ≤ (k2 : Int) := by omega
  have hTc : (T : Int) ≤ (cc2 : Int) := by omega
  have hkc : (k2 : Int) ≤ (cc2 : Int) := by omega
  have HTW := hide hT
  clear hT
  go_wp2_with fail
  refine (within_any cu 0 (k2 : Int) _ (by omega) (by omega) (by omega)).mono ?_
  rintro e w6 ⟨rfl, hd6⟩
  rw [HTW.out]
  replace c1 := cell_gr c1 hd6.gr
  replace c2 := cell_gr c2 hd6.gr
  replace c3 := cell_gr c3 hd6.gr
  replace HS0 := HS0.gr hd6.gr
  replace hsl := hsl.gr hd6.gr
  replace hgr := hgr.trans hd6.gr
  clear hd6
  clear HTW
  rcases hpl with hab | hab
  · clear hTi hTc hkc
    subst hab
    obtain ⟨hk20, hc20, hM0⟩ : k2 = 0 ∧ cc2 = 0 ∧ M = [] := by
      rcases HS0 with ⟨_, a1, a2, a3⟩ | ⟨_, e, _⟩
      · exact ⟨a1, a2, a3⟩
      · cases e
    subst hk20
    subst hc20
    obtain rfl : T = 0 := by omega
    have HT : SlS w6 none 0 0 (M.take 0) := .inl ⟨rfl, rfl, rfl, rfl⟩
    have HD : SlS w6 none 0 0 (M.drop 0) := .inl ⟨rfl, rfl, rfl, hM0⟩
    clear hM0
    go_wp2_with fail
    refine (spread_yes hsl HS0 (.inl rfl) hmay hsd (by omega) (by omega) (by omega)).mono ?_
    rintro e w7 ⟨⟨gf, cf, F, rfl, -, hfar, hsp, -⟩, hg7⟩
    replace c1 := cell_gr c1 hg7
    replace c2 := cell_gr c2 hg7
    replace c3 := cell_gr c3 hg7
    replace hsl := hsl.gr hg7
    replace hgr := hgr.trans hg7
    replace HS0 := HS0.gr hg7
    replace HT := HT.gr hg7
    replace HD := HD.gr hg7
    have HSP := hide hsp
    clear hsp hmay hsd
    go_wp2_with fail
    have hm1 : mayS W H N t (M.take 0) = true := mayS_ok hm hsl.byte (fun x hx => HM.out.2 x (List.mem_of_mem_take hx))
    obtain ⟨-, hsd1⟩ := sds_of hsl.byte hm1
    have HMK1 := hide hm1
    clear hm1
    go_region_held3 (fun u => u.cell? ⟨BX, 0, none⟩ = some (.int .i64 W) ∧ u.cell? ⟨BX, 1, none⟩ = some (.int .i64 H) ∧ u.cell? ⟨BX, 2, none⟩ = some (.slice (some ⟨g, 0, none⟩) N c')) (first | exact ⟨c1, c2, c3⟩ | exact ⟨cell_gr c1 hg9, cell_gr c2 hg9, cell_gr c3 hg9⟩) (first
      | (go_at_call 13; refine (spread_yes (hsl.gr ((Gr.refl w7).drew)) (HT.gr ((Gr.refl w7).drew)) (.inl rfl) HMK1.out hsd1 (by omega) (by omega) (by omega)).mono ?_; rintro e w8 ⟨⟨gf1, cf1, F1, rfl, -, hfar1, hsp1, -⟩, hg1⟩; have hg9 : Gr w7 w8 := ((Gr.refl w7).drew).trans hg1))
    replace c1 := cell_gr c1 hg9
    replace c2 := cell_gr c2 hg9
    replace c3 := cell_gr c3 hg9
    replace hsl := hsl.gr hg9
    replace hgr := hgr.trans hg9
    replace HS0 := HS0.gr hg9
    have HSP1 := hide hsp1
    clear hsp1 hsd1 HMK1
    replace HD := HD.gr hg9
    clear HT
    have hgA : Gr w7 w8 := hg9
    clear hg9
    go_wp2_with fail
    have hm2 : mayS W H N t (M.drop 0) = true := mayS_ok hm hsl.byte (fun x hx => HM.out.2 x (List.mem_of_mem_drop hx))
    obtain ⟨-, hsd2⟩ := sds_of hsl.byte hm2
    have HMK2 := hide hm2
    clear hm2
    go_region_held3 (fun u => u.cell? ⟨BX, 0, none⟩ = some (.int .i64 W) ∧ u.cell? ⟨BX, 1, none⟩ = some (.int .i64 H) ∧ u.cell? ⟨BX, 2, none⟩ = some (.slice (some ⟨g, 0, none⟩) N c')) (first | exact ⟨c1, c2, c3⟩ | exact ⟨cell_gr c1 hg9, cell_gr c2 hg9, cell_gr c3 hg9⟩) (first
      | (go_at_call 13; refine (spread_yes (hsl.gr ((Gr.refl w8).drew)) (HD.gr ((Gr.refl w8).drew)) (.inl rfl) HMK2.out hsd2 (by omega) (by omega) (by omega)).mono ?_; rintro e w9 ⟨⟨gf2, cf2, F2, rfl, -, hfar2, hsp2, -⟩, hg2⟩; have hg9 : Gr w8 w9 := ((Gr.refl w8).drew).trans hg2))
    replace c1 := cell_gr c1 hg9
    replace c2 := cell_gr c2 hg9
    replace c3 := cell_gr c3 hg9
    replace hsl := hsl.gr hg9
    replace hgr := hgr.trans hg9
    replace HS0 := HS0.gr hg9
    have HSP2 := hide hsp2
    clear hsp2 hsd2 HMK2
    have hfar0 := (hfar.gr hgA).gr hg9
    replace hfar1 := hfar1.gr hg9
    have hgph := gph_of hm hsl.byte
    have HMIN : Hid (∀ i, i < N → F i = min (F1 i) (F2 i)) := hide (fun i hi => sprd_parts (A := M.take 0) (B := M.drop 0) (by rw [List.take_append_drop]; exact HSP.out) HSP1.out HSP2.out hi)
    have HF0 := hide hfar0
    have HF1 := hide hfar1
    have HF2 := hide hfar2
    clear hfar0 hfar1 hfar2 hgA hg9 HD hgph
    go_wp2_with fail
    go_loopw [20] (fun iv u => ∃ I : Nat, iv = .int .i64 I ∧ I ≤ N ∧ Gr w9 u) (fun iv _ => N - (intOf iv).toNat)
    case atStart => exact ⟨0, rfl, by omega, Gr.refl _⟩
    case round =>
      obtain ⟨I, rfl, hI, hgu⟩ := hrel
      generalize wr = wz at *
      have hgrz := hgr.trans hgu
      by_cases hIN : I < N
      · have hIi : (I : Int) < (N : Int) := by omega
        have p0 := (HF0.out.gr hgu).cell hIN
        have p1 := (HF1.out.gr hgu).cell hIN
        have p2 := (HF2.out.gr hgu).cell hIN
        rw [HMIN.out I hIN] at p0
        generalize F1 I = v1 at *
        generalize F2 I = v2 at *
        go_upto_region 12 with fail
        go_quiet (fail)
        go_wp2_with fail
        go_roundw
        case rel => exact ⟨I + 1, by go_num, by omega, hgu.drewN _⟩
        case measure => simp [intOf]; omega
      · have hIi : ¬ (I : Int) < (N : Int) := by omega
        go_wp2_with fail
        refine (told9_any _).mono ?_
        rintro e z1 ⟨rfl, hgz⟩
        go_wp2_with fail
        go_ret
        exact ⟨rfl, (hgrz).trans hgz⟩
  · by_cases hTe : cc2 = T
    · subst hTe
      obtain ⟨b2, o2, rfl⟩ := hab
      obtain rfl : k2 = cc2 := by omega
      have HT : SlS w6 (some ⟨b2, o2, none⟩) k2 k2 (M.take k2) := HS0.take (by omega)
      have HD : SlS w6 (some ⟨b2, o2, none⟩) (k2 - k2) (k2 - k2) (M.drop k2) := .inr ⟨_, rfl, by rw [List.length_drop, HM.out.1], by omega, by omega, .inl (by omega)⟩
      rw [Nat.sub_self] at HD
      go_wp2_with fail
      refine (spread_yes hsl HS0 (.inr ⟨_, _, rfl⟩) hmay hsd (by omega) (by omega) (by omega)).mono ?_
      rintro e w7 ⟨⟨gf, cf, F, rfl, -, hfar, hsp, -⟩, hg7⟩
      replace c1 := cell_gr c1 hg7
      replace c2 := cell_gr c2 hg7
      replace c3 := cell_gr c3 hg7
      replace hsl := hsl.gr hg7
      replace hgr := hgr.trans hg7
      replace HS0 := HS0.gr hg7
      replace HT := HT.gr hg7
      replace HD := HD.gr hg7
      have HSP := hide hsp
      clear hsp hmay hsd
      go_wp2_with fail
      have hm1 : mayS W H N t (M.take k2) = true := mayS_ok hm hsl.byte (fun x hx => HM.out.2 x (List.mem_of_mem_take hx))
      obtain ⟨-, hsd1⟩ := sds_of hsl.byte hm1
      have HMK1 := hide hm1
      clear hm1
      go_region_held3 (fun u => u.cell? ⟨BX, 0, none⟩ = some (.int .i64 W) ∧ u.cell? ⟨BX, 1, none⟩ = some (.int .i64 H) ∧ u.cell? ⟨BX, 2, none⟩ = some (.slice (some ⟨g, 0, none⟩) N c')) (first | exact ⟨c1, c2, c3⟩ | exact ⟨cell_gr c1 hg9, cell_gr c2 hg9, cell_gr c3 hg9⟩) (first
        | (go_at_call 13; refine (spread_yes (hsl.gr ((Gr.refl w7).drew)) (HT.gr ((Gr.refl w7).drew)) (.inr ⟨_, _, rfl⟩) HMK1.out hsd1 (by omega) (by omega) (by omega)).mono ?_; rintro e w8 ⟨⟨gf1, cf1, F1, rfl, -, hfar1, hsp1, -⟩, hg1⟩; have hg9 : Gr w7 w8 := ((Gr.refl w7).drew).trans hg1))
      replace c1 := cell_gr c1 hg9
      replace c2 := cell_gr c2 hg9
      replace c3 := cell_gr c3 hg9
      replace hsl := hsl.gr hg9
      replace hgr := hgr.trans hg9
      replace HS0 := HS0.gr hg9
      have HSP1 := hide hsp1
      clear hsp1 hsd1 HMK1
      replace HD := HD.gr hg9
      clear HT
      have hgA : Gr w7 w8 := hg9
      clear hg9
      go_wp2_with fail
      have hm2 : mayS W H N t (M.drop k2) = true := mayS_ok hm hsl.byte (fun x hx => HM.out.2 x (List.mem_of_mem_drop hx))
      obtain ⟨-, hsd2⟩ := sds_of hsl.byte hm2
      have HMK2 := hide hm2
      clear hm2
      go_region_held3 (fun u => u.cell? ⟨BX, 0, none⟩ = some (.int .i64 W) ∧ u.cell? ⟨BX, 1, none⟩ = some (.int .i64 H) ∧ u.cell? ⟨BX, 2, none⟩ = some (.slice (some ⟨g, 0, none⟩) N c')) (first | exact ⟨c1, c2, c3⟩ | exact ⟨cell_gr c1 hg9, cell_gr c2 hg9, cell_gr c3 hg9⟩) (first
        | (go_at_call 13; refine (spread_yes (hsl.gr ((Gr.refl w8).drew)) (HD.gr ((Gr.refl w8).drew)) (.inr ⟨_, _, rfl⟩) HMK2.out hsd2 (by omega) (by omega) (by omega)).mono ?_; rintro e w9 ⟨⟨gf2, cf2, F2, rfl, -, hfar2, hsp2, -⟩, hg2⟩; have hg9 : Gr w8 w9 := ((Gr.refl w8).drew).trans hg2))
      replace c1 := cell_gr c1 hg9
      replace c2 := cell_gr c2 hg9
      replace c3 := cell_gr c3 hg9
      replace hsl := hsl.gr hg9
      replace hgr := hgr.trans hg9
      replace HS0 := HS0.gr hg9
      have HSP2 := hide hsp2
      clear hsp2 hsd2 HMK2
      have hfar0 := (hfar.gr hgA).gr hg9
      replace hfar1 := hfar1.gr hg9
      have hgph := gph_of hm hsl.byte
      have HMIN : Hid (∀ i, i < N → F i = min (F1 i) (F2 i)) := hide (fun i hi => sprd_parts (A := M.take k2) (B := M.drop k2) (by rw [List.take_append_drop]; exact HSP.out) HSP1.out HSP2.out hi)
      have HF0 := hide hfar0
      have HF1 := hide hfar1
      have HF2 := hide hfar2
      clear hfar0 hfar1 hfar2 hgA hg9 HD hgph
      go_wp2_with fail
      go_loopw [20] (fun iv u => ∃ I : Nat, iv = .int .i64 I ∧ I ≤ N ∧ Gr w9 u) (fun iv _ => N - (intOf iv).toNat)
      case atStart => exact ⟨0, rfl, by omega, Gr.refl _⟩
      case round =>
        obtain ⟨I, rfl, hI, hgu⟩ := hrel
        generalize wr = wz at *
        have hgrz := hgr.trans hgu
        by_cases hIN : I < N
        · have hIi : (I : Int) < (N : Int) := by omega
          have p0 := (HF0.out.gr hgu).cell hIN
          have p1 := (HF1.out.gr hgu).cell hIN
          have p2 := (HF2.out.gr hgu).cell hIN
          rw [HMIN.out I hIN] at p0
          generalize F1 I = v1 at *
          generalize F2 I = v2 at *
          go_upto_region 12 with fail
          go_quiet (fail)
          go_wp2_with fail
          go_roundw
          case rel => exact ⟨I + 1, by go_num, by omega, hgu.drewN _⟩
          case measure => simp [intOf]; omega
        · have hIi : ¬ (I : Int) < (N : Int) := by omega
          go_wp2_with fail
          refine (told9_any _).mono ?_
          rintro e z1 ⟨rfl, hgz⟩
          go_wp2_with fail
          go_ret
          exact ⟨rfl, (hgrz).trans hgz⟩
    · have hTe2 : (cc2 = T) = False := by simpa using hTe
      clear hTe
      obtain ⟨b2, o2, rfl⟩ := hab
      have HT : SlS w6 (some ⟨b2, o2, none⟩) T cc2 (M.take T) := HS0.take (by omega)
      have HD : SlS w6 (some ⟨b2, o2 + T * 3, none⟩) (k2 - T) (cc2 - T) (M.drop T) := HS0.drop (by omega)
      go_wp2_with fail
      refine (spread_yes hsl HS0 (.inr ⟨_, _, rfl⟩) hmay hsd (by omega) (by omega) (by omega)).mono ?_
      rintro e w7 ⟨⟨gf, cf, F, rfl, -, hfar, hsp, -⟩, hg7⟩
      replace c1 := cell_gr c1 hg7
      replace c2 := cell_gr c2 hg7
      replace c3 := cell_gr c3 hg7
      replace hsl := hsl.gr hg7
      replace hgr := hgr.trans hg7
      replace HS0 := HS0.gr hg7
      replace HT := HT.gr hg7
      replace HD := HD.gr hg7
      have HSP := hide hsp
      clear hsp hmay hsd
      go_wp2_with fail
      have hm1 : mayS W H N t (M.take T) = true := mayS_ok hm hsl.byte (fun x hx => HM.out.2 x (List.mem_of_mem_take hx))
      obtain ⟨-, hsd1⟩ := sds_of hsl.byte hm1
      have HMK1 := hide hm1
      clear hm1
      go_region_held3 (fun u => u.cell? ⟨BX, 0, none⟩ = some (.int .i64 W) ∧ u.cell? ⟨BX, 1, none⟩ = some (.int .i64 H) ∧ u.cell? ⟨BX, 2, none⟩ = some (.slice (some ⟨g, 0, none⟩) N c')) (first | exact ⟨c1, c2, c3⟩ | exact ⟨cell_gr c1 hg9, cell_gr c2 hg9, cell_gr c3 hg9⟩) (first
        | (go_at_call 13; refine (spread_yes (hsl.gr ((Gr.refl w7).drew)) (HT.gr ((Gr.refl w7).drew)) (.inr ⟨_, _, rfl⟩) HMK1.out hsd1 (by omega) (by omega) (by omega)).mono ?_; rintro e w8 ⟨⟨gf1, cf1, F1, rfl, -, hfar1, hsp1, -⟩, hg1⟩; have hg9 : Gr w7 w8 := ((Gr.refl w7).drew).trans hg1))
      replace c1 := cell_gr c1 hg9
      replace c2 := cell_gr c2 hg9
      replace c3 := cell_gr c3 hg9
      replace hsl := hsl.gr hg9
      replace hgr := hgr.trans hg9
      replace HS0 := HS0.gr hg9
      have HSP1 := hide hsp1
      clear hsp1 hsd1 HMK1
      replace HD := HD.gr hg9
      clear HT
      have hgA : Gr w7 w8 := hg9
      clear hg9
      go_wp2_with fail
      have hm2 : mayS W H N t (M.drop T) = true := mayS_ok hm hsl.byte (fun x hx => HM.out.2 x (List.mem_of_mem_drop hx))
      obtain ⟨-, hsd2⟩ := sds_of hsl.byte hm2
      have HMK2 := hide hm2
      clear hm2
      go_region_held3 (fun u => u.cell? ⟨BX, 0, none⟩ = some (.int .i64 W) ∧ u.cell? ⟨BX, 1, none⟩ = some (.int .i64 H) ∧ u.cell? ⟨BX, 2, none⟩ = some (.slice (some ⟨g, 0, none⟩) N c')) (first | exact ⟨c1, c2, c3⟩ | exact ⟨cell_gr c1 hg9, cell_gr c2 hg9, cell_gr c3 hg9⟩) (first
        | (go_at_call 13; refine (spread_yes (hsl.gr ((Gr.refl w8).drew)) (HD.gr ((Gr.refl w8).drew)) (.inr ⟨_, _, rfl⟩) HMK2.out hsd2 (by omega) (by omega) (by omega)).mono ?_; rintro e w9 ⟨⟨gf2, cf2, F2, rfl, -, hfar2, hsp2, -⟩, hg2⟩; have hg9 : Gr w8 w9 := ((Gr.refl w8).drew).trans hg2))
      replace c1 := cell_gr c1 hg9
      replace c2 := cell_gr c2 hg9
      replace c3 := cell_gr c3 hg9
      replace hsl := hsl.gr hg9
      replace hgr := hgr.trans hg9
      replace HS0 := HS0.gr hg9
      have HSP2 := hide hsp2
      clear hsp2 hsd2 HMK2
      have hfar0 := (hfar.gr hgA).gr hg9
      replace hfar1 := hfar1.gr hg9
      have hgph := gph_of hm hsl.byte
      have HMIN : Hid (∀ i, i < N → F i = min (F1 i) (F2 i)) := hide (fun i hi => sprd_parts (A := M.take T) (B := M.drop T) (by rw [List.take_append_drop]; exact HSP.out) HSP1.out HSP2.out hi)
      have HF0 := hide hfar0
      have HF1 := hide hfar1
      have HF2 := hide hfar2
      clear hfar0 hfar1 hfar2 hgA hg9 HD hgph
      go_wp2_with fail
      go_loopw [20] (fun iv u => ∃ I : Nat, iv = .int .i64 I ∧ I ≤ N ∧ Gr w9 u) (fun iv _ => N - (intOf iv).toNat)
      case atStart => exact ⟨0, rfl, by omega, Gr.refl _⟩
      case round =>
        obtain ⟨I, rfl, hI, hgu⟩ := hrel
        generalize wr = wz at *
        have hgrz := hgr.trans hgu
        by_cases hIN : I < N
        · have hIi : (I : Int) < (N : Int) := by omega
          have p0 := (HF0.out.gr hgu).cell hIN
          have p1 := (HF1.out.gr hgu).cell hIN
          have p2 := (HF2.out.gr hgu).cell hIN
          rw [HMIN.out I hIN] at p0
          generalize F1 I = v1 at *
          generalize F2 I = v2 at *
          go_upto_region 12 with fail
          go_quiet (fail)
          go_wp2_with fail
          go_roundw
          case rel => exact ⟨I + 1, by go_num, by omega, hgu.drewN _⟩
          case measure => simp [intOf]; omega
        · have hIi : ¬ (I : Int) < (N : Int) := by omega
          go_wp2_with fail
          refine (told9_any _).mono ?_
          rintro e z1 ⟨rfl, hgz⟩
          go_wp2_with fail
          go_ret
          exact ⟨rfl, (hgrz).trans hgz⟩
end Go.Proofs.Ytigoehoaplndiaa
