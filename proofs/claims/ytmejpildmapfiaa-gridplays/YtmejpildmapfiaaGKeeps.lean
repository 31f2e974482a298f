/- GridKeeps' walk: it answers true at every input; nothing that was there is written. -/
import Derived.Test.YtmejpildmapfiaaGRaw
namespace Go.Proofs.Ytmejpildmapfiaa
open Go.RowKit
set_option maxRecDepth 20000

/-- a map of numbers is small -/
theorem gmade_n {x y : Int} {N : Nat} (hN : (N : Int) = withinF x 1 40 * withinF y 1 40) : 1 ≤ N ∧ N ≤ 1600 := by
  have xb := within_bd x 1 40 (by omega)
  have yb := within_bd y 1 40 (by omega)
  have mb := mul_bd (w := withinF x 1 40) (h := withinF y 1 40) (W := 40) (H := 40) (by omega) (by omega) (by omega) (by omega)
  have mc := Int.mul_le_mul xb.1 yb.1 (by omega) (by omega : (0 : Int) ≤ withinF x 1 40)
  omega

theorem Kp.one (w : World) (b i : Nat) (v : Value) : Kp (fun k => k = b) w (w.setCell ⟨b, i, none⟩ v) := Kp.set (Kp.refl (fun k => k = b) w) (p := ⟨b, i, none⟩) (.inl rfl) v

set_option maxHeartbeats 8000000 in
theorem gridKeeps_any (x y : Int) (a : Option Addr) (n cap : Nat) (f : Nat → Int) (cl X : Int) (w : World) (h : Sl w a n f) (hn : n ≤ maxLen) :
    Calls Try.prog 5 #[.int .i64 x, .int .i64 y, .slice a n cap, .int .i64 cl, .int .u8 X] w fun e w' => e = .returned (.bool true) ∧ Gr w w' := by
  go_enter Try.func5, Try.ntmps5
  go_wp2_with fail
  refine (made_any x y a n cap f w h hn).mono ?_
  rintro e w1 ⟨⟨gm, cm, N, rfl, hN, hown⟩, hg1⟩
  have hm := gmade_may h.byte hN
  obtain ⟨N1, N2⟩ := gmade_n hN
  generalize withinF x 1 40 = W at *
  generalize withinF y 1 40 = H at *
  generalize madeF n f = F at *
  have hFb := hown.byte
  have hBm := tri_alloc w1 (.int .i64 W) (.int .i64 H) (.slice (some ⟨gm, 0, none⟩) N cm) 25
  have hgr : Gr w (w1.alloc (.cells #[.int .i64 W, .int .i64 H, .slice (some ⟨gm, 0, none⟩) N cm] 25)) := hg1.alloc _
  have hsl := hown.sl.2.2.2.2.gr ((Gr.refl w1).alloc (.cells #[.int .i64 W, .int .i64 H, .slice (some ⟨gm, 0, none⟩) N cm] 25))
  have hrow := (Row.of_own hown.own).gr ((Gr.refl w1).alloc (.cells #[.int .i64 W, .int .i64 H, .slice (some ⟨gm, 0, none⟩) N cm] 25))
  obtain ⟨q1, q2, q3, q4, -⟩ := hown.sl
  have hz0 := hBm.lt
  have hs0 := hgr.size
  have HN := hide hN
  have HM := hide hm
  clear hown hg1 h hn hN hm
  go_wp2_with fail
  generalize (w1.alloc (.cells #[.int .i64 W, .int .i64 H, .slice (some ⟨gm, 0, none⟩) N cm] 25)) = u1 at *
  generalize w1.heap.size = B0 at *
  obtain ⟨c1, c2, c3, -, -, -⟩ := row_cells hBm
  refine (ownMap_any W H _ N cm F u1 hsl (by omega) (by intro e; cases e)).mono ?_
  rintro e w2 ⟨⟨gw, cw, rfl, hown⟩, hg2⟩
  have hBw := tri_alloc w2 (.int .i64 W) (.int .i64 H) (.slice (some ⟨gw, 0, none⟩) N cw) 25
  replace hg2 := hg2.alloc (.cells #[.int .i64 W, .int .i64 H, .slice (some ⟨gw, 0, none⟩) N cw] 25)
  have hsw := hown.sl.2.2.2.2.gr ((Gr.refl w2).alloc (.cells #[.int .i64 W, .int .i64 H, .slice (some ⟨gw, 0, none⟩) N cw] 25))
  obtain ⟨p1, p2, p3, p4, -⟩ := hown.sl
  have hz1 := hBw.lt
  have hs1 := hg2.size
  replace hgr := hgr.trans hg2
  replace hsl := hsl.gr hg2
  replace hrow := hrow.gr hg2
  replace hBm := row_gr hBm hg2
  obtain ⟨c1, c2, c3, -, -, -⟩ := row_cells hBm
  clear hown hg2
  go_wp2_with fail
  generalize (w2.alloc (.cells #[.int .i64 W, .int .i64 H, .slice (some ⟨gw, 0, none⟩) N cw] 25)) = u2 at *
  generalize w2.heap.size = B1 at *
  refine (gnew_yes W H _ N cm F 0 u2 hsl HM.out (by omega)).mono ?_
  rintro e w3 ⟨⟨p, c, v, cc, rfl, hgd, hp, hc, hv⟩, hg3⟩
  replace hgr := hgr.trans hg3
  replace hrow := hrow.gr hg3
  replace hsw := hsw.gr hg3
  replace hBm := row_gr hBm hg3
  replace hBw := row_gr hBw hg3
  clear hsl hg3 c1 c2 c3
  obtain ⟨c1, c2, c3, -, -, -⟩ := row_cells hBm
  obtain ⟨I, hI⟩ : ∃ I : Nat, I = (withinF cl 0 ((N : Int) - 1)).toNat := ⟨_, rfl⟩
  have lb := within_bd cl 0 ((N : Int) - 1) (by omega)
  have hI2 : withinF cl 0 ((N : Int) - 1) = I := by omega
  have hIN : I < N := by omega
  have hIc : I < cm := by omega
  have wN : IntKind.i64.wrap ((N : Int) - 1) = (N : Int) - 1 := wrapI (by omega)
  have I0 : 0 ≤ (I : Int) := by omega
  have I1 : (I : Int) < N := by omega
  clear lb hI
  have HI := hide hI2
  have HG := hide hgd
  clear hgd hI2
  go_wp2_with fail
  refine (within_st _ _ _ _ (by omega) (by omega) (by omega)).mono ?_
  rintro e w4 ⟨rfl, hw4⟩
  subst hw4
  rw [HI.out]
  have d0 := hrow.cell hIN
  have f0 := hrow.frozen I
  go_wp2_with fail
  -- m.C[i] = x
  have hk1 := Kp.one w4 gm I (.int .u8 X)
  have e1 := World.block_lt_of_cell? _ _ c1
  replace HG := hide (HG.out.kp hk1 (by omega) (by omega) (by omega))
  replace hsw := hk1.sl hsw (by omega)
  replace hBm := hk1.row hBm (by omega)
  replace hBw := hk1.row hBw (by omega)
  replace hgr := hk1.gr hgr (fun k hk => by omega)
  clear hrow d0 f0 c1 c2 c3 hk1 e1
  generalize (w4.setCell ⟨gm, I, none⟩ (.int .u8 X)) = u4 at *
  refine (gmap_any HG.out).mono ?_
  rintro e w5 ⟨⟨ga, ca, rfl, hown⟩, hg5⟩
  have hBa := tri_alloc w5 (.int .i64 W) (.int .i64 H) (.slice (some ⟨ga, 0, none⟩) N ca) 25
  replace hg5 := hg5.alloc (.cells #[.int .i64 W, .int .i64 H, .slice (some ⟨ga, 0, none⟩) N ca] 25)
  have hra := (Row.of_own hown.own).gr ((Gr.refl w5).alloc (.cells #[.int .i64 W, .int .i64 H, .slice (some ⟨ga, 0, none⟩) N ca] 25))
  obtain ⟨r1, r2, r3, r4, -⟩ := hown.sl
  have hgrU := hgr
  have hgu4 := hgr.size
  have hz5 := hBa.lt
  have eBm := hBm.lt
  have eBw := hBw.lt
  have ec := HG.out.box.lt
  have ec1 := HG.out.cost.lt
  have ec2 := HG.out.vers.lt
  have eW := hsw.at (by omega)
  replace HG := hide (HG.out.gr hg5)
  replace hgr := hgr.trans hg5
  replace hsw := hsw.gr hg5
  replace hBm := row_gr hBm hg5
  replace hBw := row_gr hBw hg5
  obtain ⟨c1, c2, c3, -, -, -⟩ := row_cells hBm
  clear hown hg5 hgrU
  go_wp2_with fail
  generalize (w5.alloc (.cells #[.int .i64 W, .int .i64 H, .slice (some ⟨ga, 0, none⟩) N ca] 25)) = u5 at *
  generalize w5.heap.size = B2 at *
  have hcI : isCellB W H I = true := by rw [isCellB_iff]; exact ⟨((mayM_iff _ _ _ _).1 HM.out).1, I0, by rw [← HN.out]; omega⟩
  obtain ⟨s, l, hs, hl, es, el, egc⟩ := cell_at ((mayM_iff _ _ _ _).1 HM.out).1 HN.out hIN
  refine (rsector_yes W H I u5 hcI).mono ?_
  rintro e w6 ⟨rfl, hd6⟩
  rw [es]
  have hg6 := Dr.gr hd6
  clear hd6 es el egc hcI hl l
  go_wp2_with fail
  refine (gtile_yes (HG.out.gr hg6) s hs).mono ?_
  rintro e w7 ⟨⟨gt, ct, rfl, hown⟩, hg7⟩
  have ht := (tnF_eq (sec_of hs)).2
  generalize twF W s = TW at *
  generalize thF W H s = TH at *
  generalize tnF W H s = TN at *
  have hBt := tri_alloc w7 (.int .i64 TW) (.int .i64 TH) (.slice (some ⟨gt, 0, none⟩) TN ct) 37
  replace hg7 := (hg6.trans hg7).alloc (.cells #[.int .i64 TW, .int .i64 TH, .slice (some ⟨gt, 0, none⟩) TN ct] 37)
  have hrt := (Row.of_own hown.own).gr ((Gr.refl w7).alloc (.cells #[.int .i64 TW, .int .i64 TH, .slice (some ⟨gt, 0, none⟩) TN ct] 37))
  obtain ⟨t1, t2, t3, t4, -⟩ := hown.sl
  replace t3 := Nat.le_trans hg6.size t3
  have hz7 := hBt.lt
  have eBa := hBa.lt
  replace HG := hide (HG.out.gr hg7)
  replace hgr := hgr.trans hg7
  replace hsw := hsw.gr hg7
  replace hra := hra.gr hg7
  replace hBw := row_gr hBw hg7
  replace hBa := row_gr hBa hg7
  clear hown hg6 hBm c1 c2 c3
  obtain ⟨c1, c2, c3, -, -, -⟩ := row_cells hBw
  obtain ⟨d1, d2, d3, -, -, -⟩ := row_cells hBa
  have hsa := hra.sl hFb
  have hsm : sameTB W H N F W H N F = true := by simp [sameTB, sameB]
  go_wp2_with fail
  generalize (w7.alloc (.cells #[.int .i64 TW, .int .i64 TH, .slice (some ⟨gt, 0, none⟩) TN ct] 37)) = u7 at *
  generalize w7.heap.size = B3 at *
  refine (rsameM_any W H W H _ _ _ _ _ _ F F u7 hsa hsw).mono ?_
  rintro e w8 ⟨rfl, hg8⟩
  rw [hsm]
  replace HG := hide (HG.out.gr hg8)
  replace hgr := hgr.trans hg8
  replace hsw := hsw.gr hg8
  replace hra := hra.gr hg8
  replace hrt := hrt.gr hg8
  replace hBw := row_gr hBw hg8
  replace hBa := row_gr hBa hg8
  replace hBt := row_gr hBt hg8
  clear hg8 hsa c1 c2 c3 d1 d2 d3
  obtain ⟨d1, d2, d3, -, -, -⟩ := row_cells hBa
  have d0 := hra.cell hIN
  have f0 := hra.frozen I
  go_wp2_with fail
  -- a.C[i] = x
  have hk1 := Kp.one w8 ga I (.int .u8 X)
  obtain ⟨bw, ow, ew, hbw, -⟩ := eW
  cases ew
  replace HG := hide (HG.out.kp hk1 (by omega) (by omega) (by omega))
  replace hsw := hk1.sl hsw (by omega)
  replace hBw := hk1.row hBw (by omega)
  replace hBt := hk1.row hBt (by omega)
  replace hrt := hrt.kp hk1 (by omega)
  replace hgr := hk1.gr hgr (fun k hk => by omega)
  clear hra d0 f0 d1 d2 d3 hk1 hBa
  generalize (w8.setCell ⟨ga, I, none⟩ (.int .u8 X)) = u8 at *
  go_loopw [18] (fun i z => ∃ k : Nat, k ≤ TN ∧ i = .int .i64 k ∧ z.rowIs B3 37 3 (tri (.int .i64 TW) (.int .i64 TH) (.slice (some ⟨gt, 0, none⟩) TN ct)) ∧ (∃ F', Row z gt 5 .u8 TN F') ∧ Kp (fun k => k = gt) u8 z) (fun i _ => TN - (intOf i).toNat)
  case atStart => exact ⟨0, Nat.zero_le _, rfl, hBt, ⟨_, hrt⟩, Kp.refl _ _⟩
  case round =>
    clear hBt hrt
    obtain ⟨k, hk, rfl, hBt, ⟨F', hrt⟩, hkp⟩ := hrel
    obtain ⟨d1, d2, d3, -, -, -⟩ := row_cells hBt
    by_cases hlt : k < TN
    · have hkI : (k : Int) < (TN : Int) := by omega
      have d0 := hrt.cell hlt
      have f0 := hrt.frozen k
      have hkc : k < ct := by omega
      have hk2 := (Kp.one wr gt k (.int .u8 X)).row hBt (by omega)
      have hk3 := hrt.set k X
      have hk4 := hkp.trans (Kp.one wr gt k (.int .u8 X))
      clear hBt hrt hkp
      go_wp2_with fail
      go_roundw
      case rel => exact ⟨k + 1, by omega, by go_num, hk2, ⟨_, hk3⟩, hk4⟩
      case measure => simp [intOf]; omega
    · have hkI : ¬ (k : Int) < (TN : Int) := by omega
      replace HG := hide (HG.out.kp hkp (by omega) (by omega) (by omega))
      replace hsw := hkp.sl hsw (by omega)
      replace hBw := hkp.row hBw (by omega)
      replace hgr := hkp.gr hgr (fun k hk => by omega)
      have ew := hsw.at (by omega)
      obtain ⟨bw', ow', ew, -, hcw⟩ := ew
      cases ew
      have b0 := hcw I hIN
      rw [Nat.zero_add] at b0
      have hby := hFb I hIN
      have hb1 := hby.1
      have hb2 := hby.2
      have wF : IntKind.i64.wrap (F I) = F I := wrapI (by omega)
      have hIw : I < cw := by omega
      have hgat : gatF N F I = F I := by unfold gatF; rw [if_pos ⟨I0, I1⟩]; rfl
      obtain ⟨c1, c2, c3, -, -, -⟩ := row_cells hBw
      clear hBt hrt hkp hcw hBw d1 d2
      have HSW := hide hsw
      have HBY := hide hFb
      clear hsw hFb
      go_wp2_with fail
      go_region_held3 (fun z => z.cell? ⟨B1, 0, none⟩ = some (.int .i64 W) ∧ z.cell? ⟨B1, 1, none⟩ = some (.int .i64 H) ∧ z.cell? ⟨B1, 2, none⟩ = some (.slice (some ⟨gw, 0, none⟩) N cw) ∧ z.cell? ⟨gw, I, none⟩ = some (.int .u8 (F I)) ∧ Gr wr z) (first | exact ⟨c1, c2, c3, b0, (Gr.refl _).drew⟩ | exact ⟨cell_gr hS.1 hg9, cell_gr hS.2.1 hg9, cell_gr hS.2.2.1 hg9, cell_gr hS.2.2.2.1 hg9, hS.2.2.2.2.trans hg9⟩) (first | (go_at_call 23; have hS := ‹_ ∧ _ ∧ _ ∧ _ ∧ Gr _ _›; refine (told5_any _).mono ?_; rintro e w9 ⟨rfl, hg9⟩) | (go_at_call 17; have hS := ‹_ ∧ _ ∧ _ ∧ _ ∧ Gr _ _›; refine (gepoch_any (HG.out.gr hS.2.2.2.2)).mono ?_; rintro e w9 ⟨rfl, hg9⟩) | (go_at_call 28; have hS := ‹_ ∧ _ ∧ _ ∧ _ ∧ Gr _ _›; refine (gcost_any (HG.out.gr hS.2.2.2.2) _).mono ?_; rintro e w9 ⟨rfl, hg9⟩; rw [hgat]) | (go_at_call 25; have hS := ‹_ ∧ _ ∧ _ ∧ _ ∧ Gr _ _›; refine (gmap_any (HG.out.gr hS.2.2.2.2)).mono ?_; rintro e w9 ⟨⟨g9, c9, rfl, ho9⟩, hg9⟩; have hsl9 := ho9.sl.2.2.2.2; clear ho9) | (go_at_call 24; have hS := ‹_ ∧ _ ∧ _ ∧ _ ∧ Gr _ _›; refine (rsameM_any _ _ _ _ _ _ _ _ _ _ F F _ hsl9 (HSW.out.gr hS.2.2.2.2)).mono ?_; rintro e w9 ⟨rfl, hg9⟩; rw [hsm]))
      go_wp2_with fail
      go_ret
      exact ⟨ret_bool (by simp), hgr.trans (‹_ ∧ _ ∧ _ ∧ _ ∧ Gr wr _›).2.2.2.2⟩

end Go.Proofs.Ytmejpildmapfiaa
