/- AtlasTiles' walk: it answers true at every input where the package's variables hold what its text lays; nothing that was there is written. -/
import Derived.Test.YtakmiafloolpmaaDoorATl2
namespace Go.Proofs.YtakmiafloolpmaaDoor
open Go.RowKit
set_option maxRecDepth 20000

set_option maxHeartbeats 8000000 in
theorem atlasTiles_any (x y : Int) (a : Option Addr) (n cap : Nat) (f : Nat → Int) (at_ how : Int) (ga : Nat → Addr) (w : World) (h : Sl w a n f) (hn : n ≤ maxLen) (hw : Glob w ga) :
    Calls Tryd.prog 8 #[.int .i64 x, .int .i64 y, .slice a n cap, .int .i64 at_, .int .i64 how] w fun e w' => e = .returned (.bool true) ∧ Gr w w' := by
  obtain ⟨i0, hi, hz0, hz1, hz2⟩ := info_parts info_u8
  obtain ⟨i3, hi3, hy0, hy1, hy2⟩ := info_parts3 info_tile
  have HTD := hide (fun (u : World) (hu : Gr w u) => told4_any ga u (hw.gr hu))
  go_enter Tryd.func8, Tryd.ntmps8
  go_wp2_with fail
  refine (made_any x y a n cap f w h hn).mono ?_
  rintro e w1 ⟨⟨g, c', N, rfl, hN, hown⟩, hg1⟩
  have hm := madeM_may h.byte hN
  have xb := within_bd x 1 40 (by omega)
  have yb := within_bd y 1 40 (by omega)
  generalize withinF x 1 40 = W at *
  generalize withinF y 1 40 = H at *
  generalize madeF n f = F at *
  have hFb := hown.byte
  obtain ⟨⟨c1, c2, c3⟩, z7, q1, q2, hsl⟩ := made_box w1 W H g N c' F _ hown
  have hgr : Gr w (w1.alloc (.cells #[.int .i64 W, .int .i64 H, .slice (some ⟨g, 0, none⟩) N c'] 24)) := hg1.alloc _
  obtain ⟨hmb, -, -⟩ := (mayM_iff _ _ _ _).1 hm
  have hcn := cntS_eq hmb
  have hci := cntS_int W H
  obtain ⟨C, hC⟩ : ∃ C, cntS W H = C := ⟨_, rfl⟩
  have HTI := hide (fun (s : Nat) (u : World) (hs : s < C) (hu : Sl u (some ⟨g, 0, none⟩) N F) => atile_yes W H (some ⟨g, 0, none⟩) N c' F s u hu q1 hm (by omega))
  have HTN := hide (fun s (hs : s < C) => tnF_eq (W := W) (H := H) (s := s) (sec_of (by omega)))
  have HCV := hide (fun g c => cover_tiles (g := g) (c := c) hm)
  have HJT := hide (fun c (hc : c < N) => join_tiles (f := F) hmb hN hc)
  rw [hC] at hcn hci HCV HJT
  obtain ⟨-, hcn1, hcn2⟩ := hcn
  have HCI := hide hci
  have HCC := hide hC
  have HNN := hide hN
  have HFB := hide hFb
  clear hown hg1 h hw hn hC hci hN hFb xb yb
  go_wp2_with fail
  generalize (w1.alloc (.cells #[.int .i64 W, .int .i64 H, .slice (some ⟨g, 0, none⟩) N c'] 24)) = u1 at *
  generalize w1.heap.size = B11 at *
  refine (rcount_any W H _).mono ?_
  rintro e w2 ⟨rfl, hd2⟩
  rw [← HCI.out]
  have hg2 := Dr.gr hd2
  replace c1 := cell_gr c1 hg2
  replace c2 := cell_gr c2 hg2
  replace c3 := cell_gr c3 hg2
  replace hsl := hsl.gr hg2
  replace hgr := hgr.trans hg2
  clear hd2 hg2 z7
  have HC1 := hide c1
  have HC2 := hide c2
  have HC3 := hide c3
  have HS2 := hide hsl
  have hT0 : Tls w2 w2.heap.size (.slice none 0 0) W H (tilesF W H F 0) (fun _ => 0) (fun _ => 0) := Tls.nothing _ _ _ _ _ _
  have HT0 := hide hT0
  clear c1 c2 c3 hsl hT0
  go_wp2_with fail
  go_loopw [12, 14] (fun tv i u => ∃ (s : Nat) (gt ct : Nat → Nat), s ≤ C ∧ i = .int .i64 s ∧ Tls u w2.heap.size tv W H (tilesF W H F s) gt ct ∧ Gr w2 u) (fun _ i _ => C - (intOf i).toNat)
  case atStart => exact ⟨0, _, _, Nat.zero_le _, rfl, HT0.out, Gr.refl _⟩
  case round =>
    clear HT0
    obtain ⟨s, gt, ct, hs, rfl, htl, hg3⟩ := hrel
    have htv : ∃ ta tn tc, u12 = .slice ta tn tc := by
      rcases htl.own.2 with ⟨e, _⟩ | ⟨b', cap', cur, e, _⟩
      · exact ⟨_, _, _, e⟩
      · exact ⟨_, _, _, e⟩
    obtain ⟨ta, tn, tc, rfl⟩ := htv
    have d1 := cell_gr HC1.out hg3
    have d2 := cell_gr HC2.out hg3
    have d3 := cell_gr HC3.out hg3
    have HSL := hide (HS2.out.gr hg3)
    have HTL := hide htl
    have hsz := hg3.size
    by_cases hlt : s < C
    · obtain ⟨-, t2, t3⟩ := HTN.out s hlt
      have HTI2 := hide (fun u hu => HTI.out s u hlt hu)
      have HOW : Hid (∀ v, Gr wr v → v.ownsRow w2.heap.size 31 3 (.slice ta tn tc) s (tcs W H gt ct s)) := hide (fun v hv => by
        have := (HTL.out.gr hv).own
        rw [tilesF_len] at this
        exact this)
      have HSU : Hid (tilesF W H F (s + 1) = tilesF W H F s ++ [lst (tnF W H s) (tileF W s F)]) := hide (tilesF_succ W H F s)
      clear htl
      go_wp2_with (first | (go_at_call 14; refine (HTI2.out _ HSL.out).mono ?_; rintro e w3 ⟨⟨g3, k3, rfl, ho3⟩, hg4⟩; obtain ⟨r1, r2, -, -, sl3⟩ := ho3.sl; clear ho3) | (at_builtin; refine wpList_append_own _ rfl _ _ 49 rfl w2.heap.size 31 i3 (.agg #[.int .i64 0, .int .i64 0, .slice none 0 0]) 3 40 Tryd.underlying49 hi3 hy0 hy1 hy2 rfl (by decide) (.slice ta tn tc) s (tcs W H gt ct s) rfl (HOW.out _ (hg4.trans (by (repeat (first | (with_reducible exact Gr.refl _) | (with_reducible assumption) | (with_reducible refine Gr.alloc ?_ _) | (with_reducible refine Gr.drewN ?_ _) | (with_reducible refine Gr.drew ?_) | (with_reducible refine Gr.set ?_ (by dsimp only; omega) _) | (with_reducible refine Gr.trans ?_ (by with_reducible assumption)))); first | done | fail))) ⟨w3.heap.size + 1, 0, none⟩ 1 1 [.int .i64 (twF W s), .int .i64 (thF W H s), .slice (some ⟨g3, 0, none⟩) (tnF W H s) k3] rfl rfl (three_news _ _ _ _ _ (by simp only [World.size_alloc])) (by simp [Value.oneCell']) (by unfold maxLen; omega) (by omega) (by have := hg4.size; simp only [World.size_alloc]; omega) ?_; intro v' w5 hown5 hgrow5 hnil5; obtain ⟨g5, c5, htl5, hgr5⟩ := HTL.out.step (L := lst (tnF W H s) (tileF W s F)) (tilesF_len W H F s) (hg4.trans (by (repeat (first | (with_reducible exact Gr.refl _) | (with_reducible assumption) | (with_reducible refine Gr.alloc ?_ _) | (with_reducible refine Gr.drewN ?_ _) | (with_reducible refine Gr.drew ?_) | (with_reducible refine Gr.set ?_ (by dsimp only; omega) _) | (with_reducible refine Gr.trans ?_ (by with_reducible assumption)))); first | done | fail)) ((sl3.gr (by (repeat (first | (with_reducible exact Gr.refl _) | (with_reducible assumption) | (with_reducible refine Gr.alloc ?_ _) | (with_reducible refine Gr.drewN ?_ _) | (with_reducible refine Gr.drew ?_) | (with_reducible refine Gr.set ?_ (by dsimp only; omega) _) | (with_reducible refine Gr.trans ?_ (by with_reducible assumption)))); first | done | fail)).congr (fun i hi => (at0_lst hi).symm)) t2 r1 r2 hown5 hgrow5 (w0 := w2) (hg3.trans (hg4.trans (by (repeat (first | (with_reducible exact Gr.refl _) | (with_reducible assumption) | (with_reducible refine Gr.alloc ?_ _) | (with_reducible refine Gr.drewN ?_ _) | (with_reducible refine Gr.drew ?_) | (with_reducible refine Gr.set ?_ (by dsimp only; omega) _) | (with_reducible refine Gr.trans ?_ (by with_reducible assumption)))); first | done | fail))) (Nat.le_refl _); clear hown5 hgrow5 hnil5))
      go_roundw
      case rel => exact ⟨s + 1, g5, c5, by omega, by go_num, by rw [HSU.out]; exact htl5, hgr5⟩
      case measure => simp [intOf]; omega
    · have hsC : s = C := by omega
      subst hsC
      have hlen := tilesF_len W H F s
      have hcv := HCV.out gt ct
      have hjt := HJT.out
      generalize tilesF W H F s = ts at *
      clear HCV HJT HTI HTL HSL HC1 HC2 HC3
      obtain ⟨lb, lcap, elv, lq1, lq2, lq3, hts⟩ := htl.tsl (by omega)
      rw [hlen] at elv lq2 hts
      simp only [Value.slice.injEq] at elv
      obtain ⟨rfl, rfl, rfl⟩ := elv
      have hsl3 := HS2.out.gr hg3
      have hgr3 := hgr.trans hg3
      have HTL := hide htl
      have HJO := join_yes W H (some ⟨lb, 0, none⟩) tn tc N (tiF W H ts gt ct) ts wr hts (by omega) hmb hcv HNN.out (fun _ _ _ _ => rfl)
      have HJ := hide HJO
      have HJT := hide hjt
      clear htl hcv HJO hts hjt HS2 hg3
      go_wp2_with fail
      refine HJ.out.mono ?_
      rintro e w4 ⟨⟨g4, rfl, hrow⟩, hg4⟩
      have sl4 : Sl w4 (some ⟨g4, 0, none⟩) N F := (hrow.congr HJT.out).sl HFB.out
      replace d1 := cell_gr d1 hg4
      replace d2 := cell_gr d2 hg4
      replace d3 := cell_gr d3 hg4
      have hz4 : B11 < w4.heap.size := World.block_lt_of_cell? w4 ⟨B11, 0, none⟩ d1
      have hlv := HTL.out.gr hg4
      have HTL4 := hide hlv
      obtain ⟨x1, x2, x3⟩ := tri_cells w4 W H (.slice (some ⟨g4, 0, none⟩) N N) 24
      have ga4 := (Gr.refl w4).alloc (.cells #[.int .i64 W, .int .i64 H, .slice (some ⟨g4, 0, none⟩) N N] 24)
      have hgr4 := (hgr3.trans hg4).trans ga4
      have HSX := hide (sl4.gr ga4)
      have HSM4 := hide ((hsl3.gr hg4).gr ga4)
      have HTL5 := hide (HTL4.out.gr ga4)
      have HSM := hide (sameTB_of (W := W) (H := H) (n := N) (m := N) (f := F) (g := F) rfl (fun _ _ => rfl))
      go_wp2_with fail
      replace d1 := cell_gr d1 ga4
      replace d2 := cell_gr d2 ga4
      replace d3 := cell_gr d3 ga4
      clear hrow hlv HTL HTL4 HJ HJT hgr3 hg4 ga4 sl4 hsl3 hz4
      generalize (w4.alloc (.cells #[.int .i64 W, .int .i64 H, .slice (some ⟨g4, 0, none⟩) N N] 24)) = u4 at *
      generalize w4.heap.size = B17 at *
      refine (rsameM_any _ _ _ _ _ _ _ _ _ _ F F _ HSX.out HSM4.out).mono ?_
      rintro e w5 ⟨rfl, hg5⟩
      rw [HSM.out]
      replace d1 := cell_gr d1 hg5
      replace d2 := cell_gr d2 hg5
      have HTL6 := hide (HTL5.out.gr hg5)
      have HD1 := hide d1
      have HLB5 : Hid (w5.cell? ⟨lb, 0, none⟩ = some (.int .i64 (twF W 0))) := hide (by
        have h0 := HTL6.out.own
        rw [hlen] at h0
        have h1 := World.ownsRow.cellAt h0 0 (by omega)
        have h2 := tcs_get (W := W) (H := H) (g := gt) (c := ct) (n := tn) (i := 0) (j := 0) (by omega) (by omega)
        rw [Nat.zero_mul, Nat.zero_add] at h2
        rw [h2] at h1
        exact h1)
      have HD2 := hide d2
      have hgr5 := hgr4.trans hg5
      have hzl := hgr.size
      clear HSX HSM4 HTL5 hgr4 hg5 x1 x2 x3 d3
      obtain ⟨I, hI⟩ : ∃ I : Nat, withinF at_ 0 ((tn : Int) - 1) = I := ⟨(withinF at_ 0 ((tn : Int) - 1)).toNat, by have := within_bd at_ 0 ((tn : Int) - 1) (by omega); omega⟩
      have Ib := within_bd at_ 0 ((tn : Int) - 1) (by omega)
      rw [hI] at Ib
      obtain ⟨K, hK⟩ : ∃ K : Int, withinF how 0 3 = K := ⟨_, rfl⟩
      have Kb := within_bd how 0 3 (by omega)
      rw [hK] at Kb
      have HI := hide hI
      have HK := hide hK
      have HNW : Hid (∀ j v, (tcs W H gt ct tn)[j]? = some v → (w5.alloc (.cells #[] 31)).cell? ((⟨lb, 0, none⟩ : Addr).add j) = some v) := hide (by
        have := HTL6.out.own
        rw [hlen] at this
        exact tcs_news this ((Gr.refl w5).alloc _))
      have wN : IntKind.i64.wrap ((tn : Int) - 1) = (tn : Int) - 1 := wrapI (by omega)
      clear hI hK
      go_wp2_with (first | (at_builtin; go_loud (refine wpList_append_own _ rfl (.tmp 67) (.tmp 68) 49 rfl w5.heap.size 31 i3 (.agg #[.int .i64 0, .int .i64 0, .slice none 0 0]) 3 40 Tryd.underlying49 hi3 hy0 hy1 hy2 rfl (by decide) (.slice (some ⟨w5.heap.size, 0, none⟩) 0 0) 0 [] rfl (World.ownsRow_made w5 #[] 0 (Nat.le_refl _) (Nat.zero_le _) rfl) ⟨lb, 0, none⟩ tn tc (tcs W H gt ct tn) rfl (tcs_len W H gt ct tn) HNW.out (tcs_one W H gt ct tn) (by unfold maxLen; omega) (by omega) (by simp only [World.size_alloc]; omega) ?_; intro v' w6 hown6 hgrow6 hnil6); go_loud (have hg6 := Gr.grown (a := w5) ((Gr.refl w5).alloc _) hgrow6 (fun k hk => Nat.le_of_eq (Option.some.inj hk)); rw [← hlen] at hown6; have htl6 := HTL6.out.copy (by omega) hg6 hown6); go_loud (obtain ⟨bb, bcap, rfl, bq1, bq2, bq3, hbs⟩ := htl6.tsl (by omega); rw [hlen] at bq2 hbs; have hbl := htl6.blocks; rw [hlen] at hbl; have HTB := hide htl6; clear hown6 hgrow6 hnil6 htl6; rw [hlen]; replace d1 := cell_gr d1 hg6; replace d2 := cell_gr d2 hg6)) | (go_at_call_of 11 at_; refine (within_st _ _ _ _ (by omega) (by omega) (by omega)).mono ?_; rintro e w8 ⟨rfl, hw8⟩; replace hw8 := hw8.symm; subst hw8; rw [HI.out]))
      refine (within_st _ _ _ _ (by omega) (by omega) (by omega)).mono ?_
      rintro e w8 ⟨rfl, hw8⟩
      subst hw8
      rw [HK.out]
      have hgr8 := hgr5.trans hg6
      have HTC := hide (HTL6.out.gr hg6)
      have hg56 := hg6
      have HG5 := hide hgr5
      have hcl := (HTL6.out.gr hg6).tsl (by omega)
      obtain ⟨lb, lcap', el, -, -, -, hls⟩ := hcl
      rw [hlen] at el hls
      simp only [Value.slice.injEq, Option.some.injEq, Addr.mk.injEq, and_true] at el
      obtain ⟨rfl, -, rfl⟩ := el
      have HLS := hide hls
      have HBS := hide hbs
      have HBL := hide hbl
      clear hls hbs hbl hg6 hgr5 HNW HK HI HTL6
      obtain ⟨bx, ox, ebx, -, hcx⟩ : ∃ b o, some (⟨lb, 0, none⟩ : Addr) = some ⟨b, o, none⟩ ∧ b < w8.heap.size ∧ ∀ i, i < tn → w8.cell? ⟨b, o + i * 3, none⟩ = some (.int .i64 (tiF W H ts gt ct i).W) ∧ w8.cell? ⟨b, o + i * 3 + 1, none⟩ = some (.int .i64 (tiF W H ts gt ct i).H) ∧ w8.cell? ⟨b, o + i * 3 + 2, none⟩ = some (.slice (tiF W H ts gt ct i).a (tiF W H ts gt ct i).n (tiF W H ts gt ct i).c) := by
        rcases HLS.out.has with h0 | h1
        · omega
        · exact h1
      cases ebx
      have hIn : I < tn := by omega
      have d1w := cell_gr HD1.out hg56
      have d2w := cell_gr HD2.out hg56
      rcases (by omega : K = 0 ∨ K = 1 ∨ K = 2 ∨ K = 3) with rfl | rfl | rfl | rfl
      · have tn1 : (0 : Int) ≤ (tn : Int) - 1 := by omega
        have tn2 : (tn : Int) - 1 ≤ (bcap : Int) := by omega
        have tn3 : ((tn : Int) - 1).toNat = tn - 1 := by omega
        go_wp2_with fail
        refine (join_no W H (some ⟨bb, 0, none⟩) (tn - 1) bcap (tiF W H ts gt ct) _ (HBS.out.take (by omega)) (by omega) hmb (by simp [coverB, HCC.out]; omega)).mono ?_
        rintro e wA ⟨rfl, hgA⟩
        have hgrA := hgr8.trans hgA
        obtain ⟨x1, x2, x3⟩ := tri_cells wA 0 0 (.slice none 0 0) 24
        have hgrB := hgrA.alloc (.cells #[.int .i64 0, .int .i64 0, .slice none 0 0] 24)
        go_wp2_with fail
        generalize (wA.alloc (.cells #[.int .i64 0, .int .i64 0, .slice none 0 0] 24)) = uA at *
        generalize wA.heap.size = B22 at *
        refine (HTD.out _ hgrB).mono ?_
        rintro e wC ⟨rfl, hgC⟩
        replace x1 := cell_gr x1 hgC
        replace x2 := cell_gr x2 hgC
        replace x3 := cell_gr x3 hgC
        go_wp2_with fail
        go_ret
        exact ⟨ret_bool (by simp), hgrB.trans hgC⟩
      · obtain ⟨k1, k2, k3⟩ := hcx 0 (by omega)
        have k1' : w8.cell? ⟨lb, 0, none⟩ = some (.int .i64 (twF W 0)) := k1
        have k2' : w8.cell? ⟨lb, 1, none⟩ = some (.int .i64 (thF W H 0)) := k2
        have k3' : w8.cell? ⟨lb, 2, none⟩ = some (.slice (some ⟨gt 0, 0, none⟩) (tnF W H 0) (ct 0)) := k3
        have j0 : (0 : Int) < (tn : Int) := by omega
        have HOWB : Hid ((w8.alloc (.cells #[.int .i64 (twF W 0), .int .i64 (thF W H 0), .slice (some ⟨gt 0, 0, none⟩) (tnF W H 0) (ct 0)] 31)).ownsRow w5.heap.size 31 3 (.slice (some ⟨bb, 0, none⟩) tn bcap) tn (tcs W H gt ct tn)) := hide (by
          have := (HTB.out.gr ((Gr.refl w8).alloc (.cells #[.int .i64 (twF W 0), .int .i64 (thF W H 0), .slice (some ⟨gt 0, 0, none⟩) (tnF W H 0) (ct 0)] 31))).own
          rw [hlen] at this
          exact this)
        have hz58 := bq1
        clear hcx k1 k2 k3
        go_wp2_with (at_builtin; refine wpList_append_own _ rfl _ _ 49 rfl w5.heap.size 31 i3 (.agg #[.int .i64 0, .int .i64 0, .slice none 0 0]) 3 40 Tryd.underlying49 hi3 hy0 hy1 hy2 rfl (by decide) (.slice (some ⟨bb, 0, none⟩) tn bcap) tn (tcs W H gt ct tn) rfl HOWB.out ⟨w8.heap.size, 0, none⟩ 1 1 [.int .i64 (twF W 0), .int .i64 (thF W H 0), .slice (some ⟨gt 0, 0, none⟩) (tnF W H 0) (ct 0)] rfl rfl (three_news _ _ _ _ _ rfl) (by simp [Value.oneCell']) (by unfold maxLen; omega) (by omega) (by have := (HTB.out.own.lt bb rfl).2; simp only [World.size_alloc]; omega) ?_; intro v' w9 hown9 hgrow9 hnil9; have htb := HTB.out; rw [hlen] at htb; obtain ⟨b9, c9, rfl, hts9, hgr9⟩ := plus_tsl htb hlen (by omega) ((Gr.refl w8).alloc _) hown9 hgrow9 (w0 := w5) (hg56.alloc _) (Nat.le_refl _); have e1 := cell_gr HD1.out hgr9; have e2 := cell_gr HD2.out hgr9; clear hown9 hgrow9 hnil9 htb)
        have hgw9 := HG5.out.trans hgr9
        refine (join_no W H (some ⟨b9, 0, none⟩) (tn + 1) c9 _ _ hts9 (by omega) hmb (by simp [coverB, HCC.out])).mono ?_
        rintro e wA ⟨rfl, hgA⟩
        have hgrA := hgw9.trans hgA
        obtain ⟨x1, x2, x3⟩ := tri_cells wA 0 0 (.slice none 0 0) 24
        have hgrB := hgrA.alloc (.cells #[.int .i64 0, .int .i64 0, .slice none 0 0] 24)
        go_wp2_with fail
        generalize (wA.alloc (.cells #[.int .i64 0, .int .i64 0, .slice none 0 0] 24)) = uA at *
        generalize wA.heap.size = B22 at *
        refine (HTD.out _ hgrB).mono ?_
        rintro e wC ⟨rfl, hgC⟩
        replace x1 := cell_gr x1 hgC
        replace x2 := cell_gr x2 hgC
        replace x3 := cell_gr x3 hgC
        go_wp2_with fail
        go_ret
        exact ⟨ret_bool (by simp), hgrB.trans hgC⟩
      · obtain ⟨k1, k2, k3⟩ := hcx I hIn
        simp only [Nat.zero_add] at k1 k2 k3
        have k1' : w8.cell? ⟨lb, I * 3, none⟩ = some (.int .i64 (twF W I)) := k1
        have k2' : w8.cell? ⟨lb, I * 3 + 1, none⟩ = some (.int .i64 (thF W H I)) := k2
        have tIb := size_bd (w := W) (h := H) (s := I) (sec_of (by rw [HCC.out]; exact hIn))
        have hBb : bb < w8.heap.size := (HTB.out.own.lt bb rfl).2
        have hB11 : B11 < w5.heap.size := World.block_lt_of_cell? w5 ⟨B11, 0, none⟩ HD1.out
        have hTB9 := HTB.out.own
        rw [hlen] at hTB9
        have m1 := World.ownsRow.cellAt hTB9 (I * 3 + 0) (by omega)
        have m2 := World.ownsRow.cellAt hTB9 (I * 3 + 1) (by omega)
        have m3 := World.ownsRow.cellAt hTB9 (I * 3 + 2) (by omega)
        rw [tcs_get hIn (by omega)] at m1 m2 m3
        have m1' : w8.cell? ⟨bb, I * 3, none⟩ = some (.int .i64 (twF W I)) := m1
        have m2' : w8.cell? ⟨bb, I * 3 + 1, none⟩ = some (.int .i64 (thF W H I)) := m2
        have m3' : w8.cell? ⟨bb, I * 3 + 2, none⟩ = some (.slice (some ⟨gt I, 0, none⟩) (tnF W H I) (ct I)) := m3
        have f1 := hTB9.frozenAt (I * 3)
        have f2 := hTB9.frozenAt (I * 3 + 1)
        have f3 := hTB9.frozenAt (I * 3 + 2)
        obtain ⟨TW, hTW⟩ : ∃ TW, twF W I = TW := ⟨_, rfl⟩
        obtain ⟨TH, hTH⟩ : ∃ TH, thF W H I = TH := ⟨_, rfl⟩
        have HTW := hide hTW
        rw [hTW, hTH] at tIb
        rw [hTW] at k1' m1'
        rw [hTH] at k2' m2'
        have pb := mul_bd (w := TW + 1) (h := TH) (W := 17) (H := 16) (by omega) (by omega) (by omega) (by omega)
        obtain ⟨M, hM⟩ : ∃ M : Nat, (TW + 1) * TH = M := ⟨((TW + 1) * TH).toNat, by omega⟩
        have hM3 : M ≤ 300 := by omega
        have hmk := run_make_row' (P := Tryd.prog) 22 5 (.int .u8 0) 1 Tryd.underlying22 info_u8 rfl .i64 .i64 M (by omega) (by omega)
        have wA : IntKind.i64.wrap (TW + 1) = TW + 1 := wrapI (by omega)
        have wM : IntKind.i64.wrap ((TW + 1) * TH) = (M : Int) := by rw [hM]; exact wrapI (by omega)
        have wM2 : IntKind.i64.wrap (M : Int) = (M : Int) := wrapI (by omega)
        have j0 : (I : Int) < (tn : Int) := by omega
        have j1 : (0 : Int) ≤ (I : Int) := by omega
        have nlb : lb ≠ bb := by
          have := World.block_lt_of_cell? w5 ⟨lb, 0, none⟩ HLB5.out
          show lb ≠ bb
          have h' : lb < w5.heap.size := this
          omega
        have hg5w : Gr w5 w8 := hg56
        clear hcx k1 k2 k3 m1 m2 m3 hTW hTH d1 d2
        go_wp2_with fail
        go_region_held3 (fun u => u.cell? ⟨lb, I * 3, none⟩ = some (.int .i64 TW) ∧ u.cell? ⟨lb, I * 3 + 1, none⟩ = some (.int .i64 TH) ∧ Gr w5 u) (first | (with_reducible exact keepTa ⟨k1', k2', hg5w⟩ nlb bq1) | (with_reducible exact ⟨cell_gr k1' ((Gr.refl w8).alloc _).drew, cell_gr k2' ((Gr.refl w8).alloc _).drew, (hg5w.alloc _).drew⟩) | (with_reducible exact ⟨cell_gr k1' (Gr.refl w8).drew, cell_gr k2' (Gr.refl w8).drew, hg5w.drew⟩)) (fail)
        have hT0 := HBS.out.turnA (i := I) (M := M) (xW := TW + 1) (xH := TH) hIn hBb (by unfold maxLen; omega) (fun j hj => ⟨gt j, rfl, HBL.out j hj⟩)
        have hG0 := (keepTa (x := .int .i64 (TW + 1)) (y := .int .i64 TH) (z := .slice (some ⟨w8.heap.size, 0, none⟩) M M) (c := .cells (madeCells #[.int .u8 0] M) 5) ⟨k1', k2', hg5w⟩ nlb bq1).2.2
        have hR0 : Row ((((w8.setCell ⟨bb, I * 3, none⟩ (.int .i64 (TW + 1))).setCell ⟨bb, I * 3 + 1, none⟩ (.int .i64 TH)).setCell ⟨bb, I * 3 + 2, none⟩ (.slice (some ⟨w8.heap.size, 0, none⟩) M M)).alloc (.cells (madeCells #[.int .u8 0] M) 5)).drew w8.heap.size M (fun _ => 0) := by
          have := Row.made (((w8.setCell ⟨bb, I * 3, none⟩ (.int .i64 (TW + 1))).setCell ⟨bb, I * 3 + 1, none⟩ (.int .i64 TH)).setCell ⟨bb, I * 3 + 2, none⟩ (.slice (some ⟨w8.heap.size, 0, none⟩) M M)) M
          rw [show (((w8.setCell ⟨bb, I * 3, none⟩ (.int .i64 (TW + 1))).setCell ⟨bb, I * 3 + 1, none⟩ (.int .i64 TH)).setCell ⟨bb, I * 3 + 2, none⟩ (.slice (some ⟨w8.heap.size, 0, none⟩) M M)).heap.size = w8.heap.size by simp [go_sem]] at this
          exact Row.of this (Gr.refl _).drew
        have hgt : ∀ j, j < tn → gt j ≠ w8.heap.size := fun j hj => by
          obtain ⟨q1, q2, -, -⟩ := HTC.out.sl j (by omega)
          obtain ⟨b', o', e', hb', -⟩ := q1.at q2
          cases e'
          omega
        have nbg : bb ≠ w8.heap.size := by omega
        have hw5 := hg5w.size
        generalize ((((w8.setCell ⟨bb, I * 3, none⟩ (.int .i64 (TW + 1))).setCell ⟨bb, I * 3 + 1, none⟩ (.int .i64 TH)).setCell ⟨bb, I * 3 + 2, none⟩ (.slice (some ⟨w8.heap.size, 0, none⟩) M M)).alloc (.cells (madeCells #[.int .u8 0] M) 5)).drew = u9 at *
        generalize w8.heap.size = gm at *
        have HT0 := hide hT0
        have HR0 := hide hR0
        have HGT := hide hgt
        clear hT0 hR0 hgt hmk k1' k2' m1' m2' m3' f1 f2 f3 wA wM wM2 hM
        go_wp2_with fail
        go_loopw [21] (fun i u => ∃ (k : Nat) (Fm : Nat → Int), k ≤ M ∧ i = .int .i64 k ∧ TSl u (some ⟨bb, 0, none⟩) tn (updT (tiF W H ts gt ct) I ⟨TW + 1, TH, some ⟨gm, 0, none⟩, M, M, Fm⟩) ∧ Row u gm M Fm ∧ Gr w5 u) (fun i _ => M - (intOf i).toNat)
        case atStart => exact ⟨0, fun _ => 0, Nat.zero_le _, rfl, HT0.out, HR0.out, hG0⟩
        case round =>
          clear hG0 HT0 HR0
          obtain ⟨k, Fm, hk, rfl, hT, hR, hGk⟩ := hrel
          have hcI : wr.cell? ⟨bb, I * 3 + 2, none⟩ = some (.slice (some ⟨gm, 0, none⟩) M M) := by
            rcases hT.has with h0 | ⟨b', o', e', -, hc⟩
            · omega
            · cases e'
              have := (hc I hIn).2.2
              rw [Nat.zero_add, updT_at] at this
              exact this
          have hby := (hT.sl I hIn).1.byte
          rw [updT_at] at hby
          have HT := hide hT
          have HR := hide hR
          have HBY := hide hby
          have e1 := cell_gr HD1.out hGk
          have e2 := cell_gr HD2.out hGk
          clear hT hR hby
          by_cases hlt : k < M
          · obtain ⟨cz, fz⟩ := Row.atT HR.out hlt
            have jk : (k : Int) < (M : Int) := by omega
            have hR2 := HR.out.set (k := k) (x := 1)
            have hS2 := hR2.sl (fun i hi => by
              have := HBY.out i hi
              show 0 ≤ (if i = k then (1 : Int) else Fm i) ∧ (if i = k then (1 : Int) else Fm i) ≤ 255
              have hthis : 0 ≤ Fm i ∧ Fm i ≤ 255 := this
              split <;> omega)
            have hT2 := (HT.out.byte (i := I) (g9 := gm) (q := k) (v := .int .u8 1) (f' := fun i => if i = k then 1 else Fm i) hIn nbg (fun j hj hne => ⟨gt j, by rw [updT_ne hne]; rfl, HGT.out j hj⟩) (by rw [updT_at]; exact hS2)).congr (t' := updT (tiF W H ts gt ct) I ⟨TW + 1, TH, some ⟨gm, 0, none⟩, M, M, fun i => if i = k then 1 else Fm i⟩) (fun i _ => by unfold updT; by_cases e : i = I <;> simp [e])
            have hG2 : Gr w5 (wr.setCell ⟨gm, k, none⟩ (.int .u8 1)) := hGk.set (p := ⟨gm, k, none⟩) hw5 _
            have HA := hide hT2
            have HB := hide hR2
            clear hT2 hR2 hS2
            go_wp2_with fail
            go_roundw
            case rel => exact ⟨k + 1, _, by omega, by go_num, HA.out, HB.out, hG2⟩
            case measure => simp [intOf]; omega
          · have hkM : k = M := by omega
            subst hkM
            have hgrF := HG5.out.trans hGk
            go_wp2_with fail
            refine (join_no W H (some ⟨bb, 0, none⟩) tn bcap _ _ HT.out (by omega) hmb (cover_no hIn ?_)).mono ?_
            · rw [updT_at]
              cases hf : fitT W H ⟨TW + 1, TH, some ⟨gm, 0, none⟩, k, k, Fm⟩ I
              · rfl
              · obtain ⟨-, f2', -⟩ := (fitT_iff _ _ _ _).1 hf
                have f2'' : TW + 1 = twF W I := f2'
                rw [HTW.out] at f2''
                omega
            rintro e wA ⟨rfl, hgA⟩
            have hgrA := hgrF.trans hgA
            obtain ⟨x1, x2, x3⟩ := tri_cells wA 0 0 (.slice none 0 0) 24
            have hgrB := hgrA.alloc (.cells #[.int .i64 0, .int .i64 0, .slice none 0 0] 24)
            go_wp2_with fail
            generalize (wA.alloc (.cells #[.int .i64 0, .int .i64 0, .slice none 0 0] 24)) = uA at *
            generalize wA.heap.size = B22 at *
            refine (HTD.out _ hgrB).mono ?_
            rintro e wC ⟨rfl, hgC⟩
            replace x1 := cell_gr x1 hgC
            replace x2 := cell_gr x2 hgC
            replace x3 := cell_gr x3 hgC
            go_wp2_with fail
            go_ret
            exact ⟨ret_bool (by simp), hgrB.trans hgC⟩
      · obtain ⟨k1, k2, k3⟩ := hcx I hIn
        simp only [Nat.zero_add] at k1 k2 k3
        have k1' : w8.cell? ⟨lb, I * 3, none⟩ = some (.int .i64 (twF W I)) := k1
        have k2' : w8.cell? ⟨lb, I * 3 + 1, none⟩ = some (.int .i64 (thF W H I)) := k2
        have k3' : w8.cell? ⟨lb, I * 3 + 2, none⟩ = some (.slice (some ⟨gt I, 0, none⟩) (tnF W H I) (ct I)) := k3
        obtain ⟨slI, tI1, tI2, tI3⟩ := HTC.out.sl I (by omega)
        have tI4 := (HTN.out I hIn).2.2
        have hBb : bb < w8.heap.size := (HTB.out.own.lt bb rfl).2
        have hB11 : B11 < w5.heap.size := World.block_lt_of_cell? w5 ⟨B11, 0, none⟩ HD1.out
        have hOT := ownTile_any (twF W I) (thF W H I) (some ⟨gt I, 0, none⟩) (tnF W H I) (ct I) (at0 (ts.getD I [])) w8 slI (by omega) (by simp)
        have HOT := hide hOT
        have j0 : (I : Int) < (tn : Int) := by omega
        have j1 : (0 : Int) ≤ (I : Int) := by omega
        clear hcx k1 k2 k3 hOT slI
        go_wp2_with fail
        refine HOT.out.mono ?_
        rintro e w9 ⟨⟨g9, k9, rfl, ho9⟩, hg9⟩
        obtain ⟨r1, r2, r3, r4, sl9⟩ := ho9.sl
        have hTB9 := (HTB.out.gr hg9).own
        rw [hlen] at hTB9
        have m1 := World.ownsRow.cellAt hTB9 (I * 3 + 0) (by omega)
        have m2 := World.ownsRow.cellAt hTB9 (I * 3 + 1) (by omega)
        have m3 := World.ownsRow.cellAt hTB9 (I * 3 + 2) (by omega)
        rw [tcs_get hIn (by omega)] at m1 m2 m3
        have m1' : w9.cell? ⟨bb, I * 3, none⟩ = some (.int .i64 (twF W I)) := m1
        have m2' : w9.cell? ⟨bb, I * 3 + 1, none⟩ = some (.int .i64 (thF W H I)) := m2
        have m3' : w9.cell? ⟨bb, I * 3 + 2, none⟩ = some (.slice (some ⟨gt I, 0, none⟩) (tnF W H I) (ct I)) := m3
        have f1 := hTB9.frozenAt (I * 3)
        have f2 := hTB9.frozenAt (I * 3 + 1)
        have f3 := hTB9.frozenAt (I * 3 + 2)
        have nb1 : bb ≠ g9 := by omega
        have nb2 : B11 ≠ bb := by omega
        have nb3 : B11 ≠ g9 := by have := hg56.size; omega
        have nb4 : g9 ≠ bb := by omega
        have nb5 : bb ≠ B11 := by omega
        have nb6 : g9 ≠ B11 := by have := hg56.size; omega
        replace d1 := cell_gr d1w hg9
        replace d2 := cell_gr d2w hg9
        have y0 := ho9.cellAt (i := 0) (by omega)
        have fz0 := ho9.own.frozenAt 0
        clear m1 m2 m3
        go_wp2_with fail
        have hT1 := (HBS.out.gr hg9).turn (x := ⟨twF W I, thF W H I, some ⟨g9, 0, none⟩, tnF W H I, k9, at0 (ts.getD I [])⟩) hIn ⟨g9, rfl, nb4, sl9, r1, r2⟩ (fun j hj => ⟨gt j, rfl, HBL.out j hj⟩)
        have hO1 := ((ho9.setO (p := ⟨bb, I * 3, none⟩) nb4 (.int .i64 (twF W I))).setO (p := ⟨bb, I * 3 + 1, none⟩) nb4 (.int .i64 (thF W H I))).setO (p := ⟨bb, I * 3 + 2, none⟩) nb4 (.slice (some ⟨g9, 0, none⟩) (tnF W H I) k9)
        have hO2 := hO1.set 0 (x := 0) (by omega)
        have hgt : ∀ j, j < tn → gt j ≠ g9 := fun j hj => by
          obtain ⟨q1, q2, -, -⟩ := HTC.out.sl j (by omega)
          obtain ⟨b', o', e', hb', -⟩ := q1.at q2
          cases e'
          omega
        have hT2 := hT1.byte (i := I) (g9 := g9) (q := 0) (v := .int .u8 0) (f' := upd (at0 (ts.getD I [])) 0 0) hIn nb1 (fun j hj hne => ⟨gt j, by rw [updT_ne hne]; rfl, hgt j hj⟩) (by rw [updT_at]; exact hO2.sl.2.2.2.2)
        have hgrF : Gr w ((((w9.setCell ⟨bb, I * 3, none⟩ (.int .i64 (twF W I))).setCell ⟨bb, I * 3 + 1, none⟩ (.int .i64 (thF W H I))).setCell ⟨bb, I * 3 + 2, none⟩ (.slice (some ⟨g9, 0, none⟩) (tnF W H I) k9)).setCell ⟨g9, 0, none⟩ (.int .u8 0)) := by
          have hw5 := HG5.out.size
          have hw8 := hg56.size
          exact ((((HG5.out.trans (hg56.trans hg9)).set (p := ⟨bb, I * 3, none⟩) (by show _ ≤ bb; omega) _).set (p := ⟨bb, I * 3 + 1, none⟩) (by show _ ≤ bb; omega) _).set (p := ⟨bb, I * 3 + 2, none⟩) (by show _ ≤ bb; omega) _).set (p := ⟨g9, 0, none⟩) (by show _ ≤ g9; omega) _
        refine (join_no W H (some ⟨bb, 0, none⟩) tn bcap _ _ hT2 (by omega) hmb (cover_no hIn ?_)).mono ?_
        · rw [updT_at, updT_at]
          cases hf : fitT W H ⟨twF W I, thF W H I, some ⟨g9, 0, none⟩, tnF W H I, k9, upd (at0 (ts.getD I [])) 0 0⟩ I
          · rfl
          · obtain ⟨f1', -, -⟩ := (fitT_iff _ _ _ _).1 hf
            obtain ⟨-, -, -, f4'⟩ := (mayTB_iff _ _ _ _).1 f1'
            exact absurd rfl (f4' 0 (by show 0 < tnF W H I; omega))
        rintro e wA ⟨rfl, hgA⟩
        have hgrA := hgrF.trans hgA
        obtain ⟨x1, x2, x3⟩ := tri_cells wA 0 0 (.slice none 0 0) 24
        have hgrB := hgrA.alloc (.cells #[.int .i64 0, .int .i64 0, .slice none 0 0] 24)
        go_wp2_with fail
        generalize (wA.alloc (.cells #[.int .i64 0, .int .i64 0, .slice none 0 0] 24)) = uA at *
        generalize wA.heap.size = B22 at *
        refine (HTD.out _ hgrB).mono ?_
        rintro e wC ⟨rfl, hgC⟩
        replace x1 := cell_gr x1 hgC
        replace x2 := cell_gr x2 hgC
        replace x3 := cell_gr x3 hgC
        go_wp2_with fail
        go_ret
        exact ⟨ret_bool (by simp), hgrB.trans hgC⟩

end Go.Proofs.YtakmiafloolpmaaDoor
