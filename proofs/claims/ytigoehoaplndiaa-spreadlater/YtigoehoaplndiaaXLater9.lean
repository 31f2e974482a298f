/- SpreadLater's walk: it answers true at every input. No condition. -/
import Derived.Test.YtigoehoaplndiaaXRow9
import Derived.Deep.RegionHeld3
namespace Go.Proofs.Ytigoehoaplndiaa
open Go.RowKit
set_option maxRecDepth 20000

/-- the key brought into bounds -/
def clmS (x : Sd) : Sd := (x.1, x.2.1, withinF x.2.2 0 1048576)
theorem clm_key (x : Sd) : 0 ≤ (clmS x).2.2 ∧ (clmS x).2.2 ≤ 1048576 := within_bd _ _ _ (by omega)
theorem clm_ok {W H : Int} {n : Nat} {f : Nat → Int} {x : Sd} (h : sdOk W H n f x) : sdOk W H n f (clmS x) := by
  obtain ⟨C, a1, a2, a3, a4, a5, a6⟩ := h
  have := clm_key x
  exact ⟨C, a1, a2, a3, ⟨this.1, by omega⟩, a5, a6⟩
theorem lat_ok {W H : Int} {n : Nat} {f : Nat → Int} {x : Sd} {X : Int} (h : sdOk W H n f (clmS x)) (hX : 0 ≤ X ∧ X ≤ 1048576) : sdOk W H n f ((clmS x).1, (clmS x).2.1, (clmS x).2.2 + X) := by
  obtain ⟨C, a1, a2, a3, a4, a5, a6⟩ := h
  have := clm_key x
  exact ⟨C, a1, a2, a3, ⟨by simp only; omega, by simp only; omega⟩, a5, a6⟩
theorem sds_ok {W H : Int} {n : Nat} {f : Nat → Int} {K : Int} {L : List Sd} (h : ∀ x, x ∈ L → sdOk W H n f x) (hK : ∀ x, x ∈ L → x.2.2 ≤ K) : Sds f n K L := fun x hx => by
  obtain ⟨C, a1, a2, a3, a4, a5, a6⟩ := h x hx
  exact ⟨C, a1, a2, a3, a4.1, hK x hx⟩
theorem lat_lst (X : Int) (n : Nat) (q : Nat → Sd) : latS X (lstQ n q) = lstQ n fun i => ((q i).1, (q i).2.1, (q i).2.2 + X) := by simp [latS, lstQ, List.map_map, Function.comp_def]
set_option maxHeartbeats 8000000 in
theorem spreadLater_any (x y : Int) (ad : Option Addr) (n cap : Nat) (f : Nat → Int) (ak : Option Addr) (m kc : Nat) (z : Nat → Int) (by_ : Int) (w : World) (h : Sl w ad n f) (hn : n ≤ maxLen) (hk : SlI w ak m z) (hkm : m ≤ kc ∧ kc ≤ maxLen) (hkn : ak = none → m = 0 ∧ kc = 0) :
    Calls Try.prog 6 #[.int .i64 x, .int .i64 y, .slice ad n cap, .slice ak m kc, .int .i64 by_] w fun e w' => e = .returned (.bool true) ∧ Gr w w' := by
  unfold maxLen at hn
  go_enter Try.func6, Try.ntmps6
  go_wp2_with fail
  refine (madeTile_any _ _ _ _ _ f _ h (by unfold maxLen; omega)).mono ?_
  rintro e w1 ⟨⟨g, c', N, rfl, hN, hown⟩, hg1⟩
  have hm := made_may h.byte hN
  generalize withinF x 1 16 = W at *
  generalize withinF y 1 16 = H at *
  generalize madeF n f = t at *
  obtain ⟨-, -, -, -, hsl⟩ := hown.sl
  have n1 := (mayTB_n hm).1
  have n2 := (mayTB_n hm).2.1
  clear hown hN h hn
  obtain ⟨c1, c2, c3⟩ := tri_at w1 W H (.slice (some ⟨g, 0, none⟩) N c')
  obtain ⟨u1, hu1⟩ : ∃ u1, u1 = w1.alloc (.cells #[.int .i64 W, .int .i64 H, .slice (some ⟨g, 0, none⟩) N c'] 24) := ⟨_, rfl⟩
  have hgu : Gr w1 u1 := hu1 ▸ (Gr.refl w1).alloc _
  rw [← hu1] at c1 c2 c3
  go_upto_region 2 with fail
  rw [← hu1]
  clear hu1
  generalize w1.heap.size = BX at *
  replace hsl := hsl.gr hgu
  have hgr := hg1.trans hgu
  replace hk := hk.gr hgr
  clear hg1 hgu
  go_region_held3 (fun u => u.cell? ⟨BX, 0, none⟩ = some (.int .i64 W) ∧ u.cell? ⟨BX, 1, none⟩ = some (.int .i64 H) ∧ u.cell? ⟨BX, 2, none⟩ = some (.slice (some ⟨g, 0, none⟩) N c')) (first | exact ⟨c1, c2, c3⟩ | exact ⟨cell_gr c1 hg9, cell_gr c2 hg9, cell_gr c3 hg9⟩) (first
    | (go_at_call 12; refine (few9_any ak m kc z _ (hk.gr ((Gr.refl u1).drew)) hkm.1 hkm.2 hkn).mono ?_; rintro e w3 ⟨⟨k, k24, kn, rfl, hki⟩, hg3⟩; have hg9 : Gr u1 w3 := ((Gr.refl u1).drew).trans hg3)
    | (go_at_call 11; refine (xseeds_any W H _ N c' t ak k kc z _ (hsl.gr hg9) n1 (by omega) hki (by omega)).mono ?_; rintro e w4 ⟨⟨a2, cc2, k2, M, rfl, kM, HM, hown⟩, hg4⟩; have hg9 : Gr u1 w4 := (((Gr.refl u1).drew).trans hg3).trans hg4))
  have hmay : mayS W H N t M = true := mayS_ok hm hsl.byte HM.out.2
  obtain ⟨-, hsd⟩ := sds_of hsl.byte hmay
  have hpl := plain_own hown
  have HS0 : SlS w4 a2 k2 cc2 M := sls_own hown HM.out.1
  have hown0 := hown
  have hw3 : u1.heap.size ≤ w3.heap.size := Below.size (((Gr.refl u1).drew).trans hg3)
  have hw1 : w.heap.size ≤ u1.heap.size := Below.size hgr
  have hBX : BX < u1.heap.size := World.block_lt_of_cell? _ _ c3
  have hgu1 : g < u1.heap.size := by
    obtain ⟨b, o, e, hb, -⟩ := hsl.at (by omega)
    cases e
    exact hb
  replace c1 := cell_gr c1 hg9
  replace c2 := cell_gr c2 hg9
  replace c3 := cell_gr c3 hg9
  replace hsl := hsl.gr hg9
  replace hgr := hgr.trans hg9
  clear hown hki hg3 hg4 hg9 hk
  have k2s : k2 ≤ 24 := by omega
  obtain ⟨X, hX⟩ : ∃ X : Int, withinF by_ 0 1048576 = X := ⟨_, rfl⟩
  have hX0 : 0 ≤ X ∧ X ≤ 1048576 := by rw [← hX]; exact within_bd _ _ _ (by omega)
  have HXW := hide hX
  clear hX
  go_wp2_with fail
  refine (within_any by_ 0 1048576 _ (by omega) (by omega) (by omega)).mono ?_
  rintro e w6 ⟨rfl, hd6⟩
  rw [HXW.out]
  replace hown0 := own_gr3 hown0 hd6.gr
  replace c1 := cell_gr c1 hd6.gr
  replace c2 := cell_gr c2 hd6.gr
  replace c3 := cell_gr c3 hd6.gr
  replace HS0 := HS0.gr hd6.gr
  replace hsl := hsl.gr hd6.gr
  replace hgr := hgr.trans hd6.gr
  clear hd6
  clear HXW hmay hsd
  have HOK : Hid (∀ i, i < k2 → sdOk W H N t (clmS (el M i))) := hide (fun i hi => clm_ok (HM.out.2 _ (el_mem (by have := HM.out.1; omega))))
  have HM1 : Hid (mayS W H N t (lstQ k2 fun i => clmS (el M i)) = true) := hide (mayS_ok hm hsl.byte (fun x hx => by obtain ⟨i, hi, rfl⟩ := lstQ_mem hx; exact HOK.out i hi))
  have HD1 : Hid (Sds t N 1048576 (lstQ k2 fun i => clmS (el M i))) := hide (sds_ok (W := W) (H := H) (fun x hx => by obtain ⟨i, hi, rfl⟩ := lstQ_mem hx; exact HOK.out i hi) (fun x hx => by obtain ⟨i, hi, rfl⟩ := lstQ_mem hx; exact (clm_key _).2))
  have HM2 : Hid (mayS W H N t (latS X (lstQ k2 fun i => clmS (el M i))) = true) := hide (by rw [lat_lst]; exact mayS_ok hm hsl.byte (fun x hx => by obtain ⟨i, hi, rfl⟩ := lstQ_mem hx; exact lat_ok (HOK.out i hi) hX0))
  have HD2 : Hid (Sds t N 1073741824 (latS X (lstQ k2 fun i => clmS (el M i)))) := hide (by rw [lat_lst]; exact sds_ok (W := W) (H := H) (fun x hx => by obtain ⟨i, hi, rfl⟩ := lstQ_mem hx; exact lat_ok (HOK.out i hi) hX0) (fun x hx => by obtain ⟨i, hi, rfl⟩ := lstQ_mem hx; have := (clm_key (el M i)).2; simp only; omega))
  rcases Nat.eq_zero_or_pos k2 with hk0 | hk0
  · subst hk0
    have HS1 : SlS w6 a2 0 cc2 (lstQ 0 fun i => clmS (el M i)) := by
      have e : M = [] := List.eq_nil_of_length_eq_zero HM.out.1
      rw [e] at HS0
      exact HS0
    have HS2 : SlS w6 none 0 0 (latS X (lstQ 0 fun i => clmS (el M i))) := .inl ⟨rfl, rfl, rfl, rfl⟩
    have HP1 := hide hpl
    clear HS0 hown0 hpl
    go_wp2_with fail
    refine wp_loop_rounds 1 ?_
    rw [rounds_succ]
    go_wp2_with fail
    refine (spread_yes hsl HS1 HP1.out HM1.out HD1.out (by omega) (by omega) (by omega)).mono ?_
    rintro e wa ⟨⟨gf1, cf1, F1, rfl, -, hfar1, hsp1, hbd1⟩, hg1⟩
    replace c1 := cell_gr c1 hg1
    replace c2 := cell_gr c2 hg1
    replace c3 := cell_gr c3 hg1
    replace hsl := hsl.gr hg1
    replace hgr := hgr.trans hg1
    have HSP1 := hide hsp1
    have HBD1 := hide hbd1
    clear hsp1 hbd1
    replace HS2 := HS2.gr hg1
    go_wp2_with fail
    refine (spread_yes hsl HS2 (.inl rfl) HM2.out HD2.out (by omega) (by omega) (by omega)).mono ?_
    rintro e wb ⟨⟨gf2, cf2, F2, rfl, -, hfar2, hsp2, hbd2⟩, hg2⟩
    replace c1 := cell_gr c1 hg2
    replace c2 := cell_gr c2 hg2
    replace c3 := cell_gr c3 hg2
    replace hsl := hsl.gr hg2
    replace hgr := hgr.trans hg2
    have HSP2 := hide hsp2
    have HBD2 := hide hbd2
    clear hsp2 hbd2
    have HF1 := hide (hfar1.gr hg2)
    have HF2 := hide hfar2
    have HB : Hid (∀ i, i < N → (F1 i < 1099511627776 ∧ F2 i = F1 i + X) ∨ (F1 i = 1099511627776 ∧ F2 i = 1099511627776)) := hide (fun i hi => sprd_later (B := 1048576 + 254 * 255) HSP1.out HSP2.out hi (by omega) (fun k => HBD1.out i hi k) (by omega))
    have HP := hide (fun i (hi : i < N) => HSP1.out.pos (gph_of hm hsl.byte) HD1.out hi)
    clear hfar1 hfar2 hg1 hg2 HS1 HS2
    go_wp2_with fail
    go_loopw [21] (fun iv u => ∃ I : Nat, iv = .int .i64 I ∧ I ≤ N ∧ Gr wb u) (fun iv _ => N - (intOf iv).toNat)
    case atStart => exact ⟨0, rfl, by omega, Gr.refl _⟩
    case round =>
      obtain ⟨I, rfl, hI, hgu⟩ := hrel
      generalize wr = wz at *
      have hgrz := hgr.trans hgu
      by_cases hIN : I < N
      · have hIi : (I : Int) < (N : Int) := by omega
        have p1 := (HF1.out.gr hgu).cell hIN
        have p2 := (HF2.out.gr hgu).cell hIN
        have hp0 := HP.out I hIN
        rcases HB.out I hIN with ⟨e1, e2⟩ | ⟨e1, e2⟩
        · rw [e2] at p2
          clear e2
          generalize F1 I = v1 at *
          have hwr : IntKind.i64.wrap (v1 + X) = v1 + X := wrapI (by omega)
          have hge : ¬ (1099511627776 : Int) ≤ v1 := by omega
          go_upto_region 19 with fail
          go_quiet (fail)
          go_wp2_with fail
          go_roundw
          case rel => exact ⟨I + 1, by go_num, by omega, hgu.drewN _⟩
          case measure => simp [intOf]; omega
        · rw [e1] at p1
          rw [e2] at p2
          clear e1 e2 hp0
          go_upto_region 19 with fail
          go_quiet (fail)
          go_wp2_with fail
          go_roundw
          case rel => exact ⟨I + 1, by go_num, by omega, hgu.drewN _⟩
          case measure => simp [intOf]; omega
      · have hIi : ¬ (I : Int) < (N : Int) := by omega
        go_wp2_with fail
        refine (told9_any _).mono ?_
        rintro e z1 ⟨rfl, hgz⟩
        go_wp2_with fail
        go_ret
        exact ⟨rfl, (hgrz).trans hgz⟩
  · obtain ⟨gS, rfl, hgS, hSR⟩ := SR.of_own hown0 HM.out.1 hk0
    have hg6 := hSR.lt
    have hBS : BX ≠ gS ∧ g ≠ gS := ⟨by omega, by omega⟩
    have hwS : w.heap.size ≤ gS := by omega
    clear HS0 hown0 hgS hw3 hw1 hBX hgu1 hpl
    go_wp2_with fail
    go_loopw [14, 15] (fun lv jv u => ∃ (J cJ : Nat) (a1 : Option Addr), J ≤ k2 ∧ jv = .int .i64 J ∧ lv = .slice a1 J cJ ∧ SR u gS cc2 k2 (fun i => if i < J then clmS (el M i) else el M i) ∧ u.ownsRow w6.heap.size 39 3 (.slice a1 J cJ) J (flatS (lstQ J fun i => ((clmS (el M i)).1, (clmS (el M i)).2.1, (clmS (el M i)).2.2 + X))) ∧ Kp (fun b => b = gS) w6 u) (fun _ jv _ => k2 - (intOf jv).toNat)
    case atStart => exact ⟨0, 0, none, by omega, rfl, rfl, hSR.congr (fun i _ => by simp), World.ownsRow_nil _ _ _ _, Kp.refl _ _⟩
    case round =>
      obtain ⟨J, cJ, a1, hJ, rfl, rfl, hSR', hown', hkp⟩ := hrel
      generalize wr = w7 at *
      clear hSR
      by_cases hJk : J < k2
      · have hJi : (J : Int) < (k2 : Int) := by omega
        obtain ⟨-, -, r3⟩ := hSR'.cells hJk
        simp only [Nat.lt_irrefl, if_false] at r3
        obtain ⟨kk, hkk⟩ : ∃ kk, kk = (el M J).2.2 := ⟨_, rfl⟩
        rw [← hkk] at r3
        have HKK := hide hkk
        clear hkk
        go_wp2_with fail
        refine (within_any kk 0 1048576 _ (by omega) (by omega) (by omega)).mono ?_
        rintro e w8 ⟨rfl, hd8⟩
        have hgd : Gr w7 w8 := hd8.gr
        obtain ⟨kb1, kb2⟩ := within_bd kk 0 1048576 (by omega)
        obtain ⟨K', hK'⟩ : ∃ K', withinF kk 0 1048576 = K' := ⟨_, rfl⟩
        rw [hK'] at kb1 kb2 ⊢
        have HK' := hide hK'
        clear hK' r3 hd8
        have r3 := ((hSR'.gr hgd).cells hJk).2.2
        have rf := (hSR'.gr hgd).frozen (J * 3 + 2)
        simp only [Nat.lt_irrefl, if_false] at r3
        have hSR9 : SR (w8.setCell ⟨gS, J * 3 + 2, none⟩ (.int .i64 K')) gS cc2 k2 (fun i => if i < J + 1 then clmS (el M i) else el M i) := ((hSR'.gr hgd).key J K').congr (fun i hi => by
          by_cases e : i = J
          · subst e
            simp only [Nat.lt_succ_self, if_true, Nat.lt_irrefl, if_false]
            unfold clmS
            rw [← HK'.out, HKK.out]
          · simp only [if_neg e]
            by_cases e2 : i < J
            · rw [if_pos e2, if_pos (by omega)]
            · rw [if_neg e2, if_neg (by omega)])
        have hkp9 : Kp (fun b => b = gS) w6 (w8.setCell ⟨gS, J * 3 + 2, none⟩ (.int .i64 K')) := (hkp.grb hgd).set (p := ⟨gS, J * 3 + 2, none⟩) (.inl rfl) _
        have hown9 := ownsRow_setCell_below (own_gr3 hown' hgd) (a := ⟨gS, J * 3 + 2, none⟩) hg6 (.int .i64 K')
        obtain ⟨w9, hw9⟩ : ∃ w9, w9 = w8.setCell ⟨gS, J * 3 + 2, none⟩ (.int .i64 K') := ⟨_, rfl⟩
        rw [← hw9] at hSR9 hkp9 hown9
        obtain ⟨y1, y2, y3⟩ := hSR9.cells hJk
        simp only [Nat.lt_succ_self, if_true] at y1 y2 y3
        go_upto_region 9 with fail
        rw [← hw9]
        clear hw9 r3 rf hgd hown' hkp hSR'
        have hv3b := clm_key (el M J)
        obtain ⟨v1, hv1⟩ : ∃ v1, v1 = (clmS (el M J)).1 := ⟨_, rfl⟩
        obtain ⟨v2, hv2⟩ : ∃ v2, v2 = (clmS (el M J)).2.1 := ⟨_, rfl⟩
        obtain ⟨v3, hv3⟩ : ∃ v3, v3 = (clmS (el M J)).2.2 := ⟨_, rfl⟩
        have HAPP : Hid (flatS (lstQ (J + 1) fun i => ((clmS (el M i)).1, (clmS (el M i)).2.1, (clmS (el M i)).2.2 + X)) = flatS (lstQ J fun i => ((clmS (el M i)).1, (clmS (el M i)).2.1, (clmS (el M i)).2.2 + X)) ++ flatS [(v1, v2, v3 + X)]) := hide (by rw [lstQ_succ, flatS_app, hv1, hv2, hv3])
        rw [← hv1] at y1
        rw [← hv2] at y2
        rw [← hv3] at y3 hv3b
        clear hv1 hv2 hv3
        have hrow := tri_alloc w9 (.int .i64 v1) (.int .i64 v2) (.int .i64 v3) 39
        obtain ⟨w10, hw10⟩ : ∃ w10, w10 = w9.alloc (.cells #[.int .i64 v1, .int .i64 v2, .int .i64 v3] 39) := ⟨_, rfl⟩
        rw [← hw10] at hrow
        have hg10 : Gr w9 w10 := hw10 ▸ (Gr.refl w9).alloc _
        go_upto_region 10 with fail
        rw [← hw10]
        clear hw10 y1 y2 y3
        obtain ⟨BY, hBY⟩ : ∃ BY, BY = w9.heap.size := ⟨_, rfl⟩
        rw [← hBY] at hrow ⊢
        have HBY := hide hBY
        clear hBY
        obtain ⟨⟨r1, r2, r3⟩, hfz⟩ := row3 hrow
        have hfz2 := hfz 2
        have hwr : IntKind.i64.wrap (v3 + X) = v3 + X := wrapI (by omega)
        have hrow2 := (hrow.set 2 (.int .i64 (v3 + X))).congr (tri_set2 _ _ _ _)
        have hg11 : Gr w9 (w10.setCell ⟨BY, 2, none⟩ (.int .i64 (v3 + X))) := hg10.set (by rw [HBY.out]; exact Nat.le_refl _) _
        obtain ⟨w11, hw11⟩ : ∃ w11, w11 = w10.setCell ⟨BY, 2, none⟩ (.int .i64 (v3 + X)) := ⟨_, rfl⟩
        rw [← hw11] at hrow2 hg11
        go_upto_region 11 with fail
        rw [← hw11]
        clear hw11 r1 r2 r3 hfz hfz2 hwr hrow hg10
        obtain ⟨⟨r1, r2, r3⟩, -⟩ := row3 hrow2
        have hown11 := own_gr3 hown9 hg11
        have hkp11 := hkp9.grb hg11
        clear hrow2 hown9 hkp9
        have hJ1 : J + 1 ≤ 100 := by omega
        go_wp2_with (at_builtin; refine wpList_seeds rfl (.tmp 57) (.tmp 59) rfl w6.heap.size _ J _ rfl (hown11.alloc _) _ 1 1 [(v1, v2, v3 + X)] rfl (seeds_one _ (v1, v2, v3 + X)) (by omega) (N := J + 1) rfl (Nat.le_trans hkp11.size (by simp)) ?_; intro a7 c7 w12 hown12 hgrow12)
        go_roundw
        case rel => exact ⟨J + 1, c7, a7, by omega, by go_num, rfl, hSR9.kp (S := fun b => w6.heap.size ≤ b) ((hg11.alloc _).kp.trans ((Kp.gr_of hgrow12).mono (fun b e => (hown11.lt b e).1))) (by omega), by rw [HAPP.out]; exact hown12, (hkp11.grb ((Gr.refl _).alloc _)).grow hgrow12 (fun b e => (hown11.lt b e).1)⟩
        case measure => simp [intOf]; omega
      · obtain rfl : J = k2 := by omega
        have hJi : ¬ (J : Int) < (J : Int) := by omega
        have HS1 : SlS w7 (some ⟨gS, 0, none⟩) J cc2 (lstQ J fun i => clmS (el M i)) := (hSR'.congr (r := fun i => clmS (el M i)) (fun i hi => by rw [if_pos hi])).sls
        have HS2 : SlS w7 a1 J cJ (latS X (lstQ J fun i => clmS (el M i))) := by rw [lat_lst]; exact sls_own hown' (lstQ_len _ _)
        have HP2 := hide (plain_own hown')
        replace c1 := hkp.cell c1 hBS.1
        replace c2 := hkp.cell c2 hBS.1
        replace c3 := hkp.cell c3 hBS.1
        replace hsl := hkp.sl hsl hBS.2
        replace hgr := hkp.gr hgr (fun b e => by rw [e]; exact hwS)
        clear hSR' hown' hkp
        go_wp2_with fail
        refine (spread_yes hsl HS1 (.inr ⟨_, _, rfl⟩) HM1.out HD1.out (by omega) (by omega) (by omega)).mono ?_
        rintro e wa ⟨⟨gf1, cf1, F1, rfl, -, hfar1, hsp1, hbd1⟩, hg1⟩
        replace c1 := cell_gr c1 hg1
        replace c2 := cell_gr c2 hg1
        replace c3 := cell_gr c3 hg1
        replace hsl := hsl.gr hg1
        replace hgr := hgr.trans hg1
        have HSP1 := hide hsp1
        have HBD1 := hide hbd1
        clear hsp1 hbd1
        replace HS2 := HS2.gr hg1
        go_wp2_with fail
        refine (spread_yes hsl HS2 HP2.out HM2.out HD2.out (by omega) (by omega) (by omega)).mono ?_
        rintro e wb ⟨⟨gf2, cf2, F2, rfl, -, hfar2, hsp2, hbd2⟩, hg2⟩
        replace c1 := cell_gr c1 hg2
        replace c2 := cell_gr c2 hg2
        replace c3 := cell_gr c3 hg2
        replace hsl := hsl.gr hg2
        replace hgr := hgr.trans hg2
        have HSP2 := hide hsp2
        have HBD2 := hide hbd2
        clear hsp2 hbd2
        have HF1 := hide (hfar1.gr hg2)
        have HF2 := hide hfar2
        have HB : Hid (∀ i, i < N → (F1 i < 1099511627776 ∧ F2 i = F1 i + X) ∨ (F1 i = 1099511627776 ∧ F2 i = 1099511627776)) := hide (fun i hi => sprd_later (B := 1048576 + 254 * 255) HSP1.out HSP2.out hi (by omega) (fun k => HBD1.out i hi k) (by omega))
        have HP := hide (fun i (hi : i < N) => HSP1.out.pos (gph_of hm hsl.byte) HD1.out hi)
        clear hfar1 hfar2 hg1 hg2 HS1 HS2
        go_wp2_with fail
        go_loopw [21] (fun iv u => ∃ I : Nat, iv = .int .i64 I ∧ I ≤ N ∧ Gr wb u) (fun iv _ => N - (intOf iv).toNat)
        case atStart => exact ⟨0, rfl, by omega, Gr.refl _⟩
        case round =>
          obtain ⟨I, rfl, hI, hgu⟩ := hrel
          generalize wr = wz at *
          have hgrz := hgr.trans hgu
          by_cases hIN : I < N
          · have hIi : (I : Int) < (N : Int) := by omega
            have p1 := (HF1.out.gr hgu).cell hIN
            have p2 := (HF2.out.gr hgu).cell hIN
            have hp0 := HP.out I hIN
            rcases HB.out I hIN with ⟨e1, e2⟩ | ⟨e1, e2⟩
            · rw [e2] at p2
              clear e2
              generalize F1 I = v1 at *
              have hwr : IntKind.i64.wrap (v1 + X) = v1 + X := wrapI (by omega)
              have hge : ¬ (1099511627776 : Int) ≤ v1 := by omega
              go_upto_region 19 with fail
              go_quiet (fail)
              go_wp2_with fail
              go_roundw
              case rel => exact ⟨I + 1, by go_num, by omega, hgu.drewN _⟩
              case measure => simp [intOf]; omega
            · rw [e1] at p1
              rw [e2] at p2
              clear e1 e2 hp0
              go_upto_region 19 with fail
              go_quiet (fail)
              go_wp2_with fail
              go_roundw
              case rel => exact ⟨I + 1, by go_num, by omega, hgu.drewN _⟩
              case measure => simp [intOf]; omega
          · have hIi : ¬ (I : Int) < (N : Int) := by omega
            go_wp2_with fail
            refine (told9_any _).mono ?_
            rintro e z1 ⟨rfl, hgz⟩
            go_wp2_with fail
            go_ret
            exact ⟨rfl, (hgrz).trans hgz⟩
end Go.Proofs.Ytigoehoaplndiaa
