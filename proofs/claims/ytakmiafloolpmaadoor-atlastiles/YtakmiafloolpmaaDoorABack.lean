/- AtlasBack's walk: it answers true at every input where the package's variables hold what its text lays; nothing that was there is written. -/
import Derived.Test.YtakmiafloolpmaaDoorATold
namespace Go.Proofs.YtakmiafloolpmaaDoor
open Go.RowKit
set_option maxRecDepth 20000

/-- the law's first step: a map of numbers, in its box -/
theorem made_box (w1 : World) (W H : Int) (g N c' : Nat) (F : Nat → Int) (base : Nat) (hown : OwnB w1 base g N c' F) :
    ((w1.alloc (.cells #[.int .i64 W, .int .i64 H, .slice (some ⟨g, 0, none⟩) N c'] 24)).cell? ⟨w1.heap.size, 0, none⟩ = some (.int .i64 W) ∧ (w1.alloc (.cells #[.int .i64 W, .int .i64 H, .slice (some ⟨g, 0, none⟩) N c'] 24)).cell? ⟨w1.heap.size, 1, none⟩ = some (.int .i64 H) ∧ (w1.alloc (.cells #[.int .i64 W, .int .i64 H, .slice (some ⟨g, 0, none⟩) N c'] 24)).cell? ⟨w1.heap.size, 2, none⟩ = some (.slice (some ⟨g, 0, none⟩) N c')) ∧
    w1.heap.size < (w1.alloc (.cells #[.int .i64 W, .int .i64 H, .slice (some ⟨g, 0, none⟩) N c'] 24)).heap.size ∧ N ≤ c' ∧ c' ≤ maxLen ∧ Sl (w1.alloc (.cells #[.int .i64 W, .int .i64 H, .slice (some ⟨g, 0, none⟩) N c'] 24)) (some ⟨g, 0, none⟩) N F := by
  obtain ⟨q1, q2, -, -, hsl⟩ := hown.sl
  exact ⟨tri_cells w1 W H (.slice (some ⟨g, 0, none⟩) N c') 24, by rw [World.size_alloc]; omega, q1, q2, hsl.gr ((Gr.refl w1).alloc _)⟩

set_option maxHeartbeats 3000000 in
theorem atlasBack_any (x y : Int) (a : Option Addr) (n cap : Nat) (f : Nat → Int) (ga : Nat → Addr) (w : World) (h : Sl w a n f) (hn : n ≤ maxLen) (hw : Glob w ga) :
    Calls Tryd.prog 5 #[.int .i64 x, .int .i64 y, .slice a n cap] w fun e w' => e = .returned (.bool true) ∧ Gr w w' := by
  go_enter Tryd.func5, Tryd.ntmps5
  go_wp2_with fail
  refine (made_any x y a n cap f w h hn).mono ?_
  rintro e w1 ⟨⟨g, c', N, rfl, hN, hown⟩, hg1⟩
  have hm := madeM_may h.byte hN
  have xb := within_bd x 1 40 (by omega)
  have yb := within_bd y 1 40 (by omega)
  generalize withinF x 1 40 = W at *
  generalize withinF y 1 40 = H at *
  generalize madeF n f = F at *
  have hFb := hown.byte
  obtain ⟨⟨c1, c2, c3⟩, z1, q1, q2, hsl⟩ := made_box w1 W H g N c' F _ hown
  have hlen := made_len hm hFb
  have hsm := made_small hm hFb xb.2 yb.2
  have hgr : Gr w (w1.alloc (.cells #[.int .i64 W, .int .i64 H, .slice (some ⟨g, 0, none⟩) N c'] 24)) := hg1.alloc _
  have mm := may_mul ((mayM_iff _ _ _ _).1 hm).1
  have hN7 : N ≤ 140737488355328 := by omega
  have HP := hide (fun (u : World) (hu : Sl u (some ⟨g, 0, none⟩) N F) => aput_yes W H (some ⟨g, 0, none⟩) N c' F u hu q1 hm)
  have HG := hide (fun (u : World) (a : Option Addr) (cap : Nat) (hu : Gr w u) (h : Sl u a (putM W H F).length (at0 (putM W H F))) (hc : (putM W H F).length ≤ cap) (hcm : cap ≤ maxLen) => aget_back W H N F a cap ga u hm hFb h (hw.gr hu) hc hcm (by omega))
  have HO := hide (fun (u : World) (hu : Sl u (some ⟨g, 0, none⟩) N F) => ownMap_any W H (some ⟨g, 0, none⟩) N c' F u hu hN7 (by simp))
  have HTD := hide (fun (u : World) (hu : Gr w u) => told4_any ga u (hw.gr hu))
  have HSM := hide (sameTB_of (W := W) (H := H) (n := N) (m := N) (f := F) (g := F) rfl (fun _ _ => rfl))
  clear hown hg1 hm hFb h hw hN mm xb yb hn
  go_wp2_with fail
  generalize (w1.alloc (.cells #[.int .i64 W, .int .i64 H, .slice (some ⟨g, 0, none⟩) N c'] 24)) = u1 at *
  generalize w1.heap.size = B7 at *
  refine (HO.out _ hsl).mono ?_
  rintro e w2 ⟨⟨g2, k2, rfl, ho2⟩, hg2⟩
  replace c1 := cell_gr c1 hg2
  replace c2 := cell_gr c2 hg2
  replace c3 := cell_gr c3 hg2
  have z2 : B7 < w2.heap.size := Nat.lt_of_lt_of_le z1 hg2.size
  obtain ⟨⟨d1, d2, d3⟩, z8, p1, p2, sl8⟩ := made_box w2 W H g2 N k2 F _ ho2
  have hgr2 := hgr.trans hg2
  have hslx := (hsl.gr hg2).gr ((Gr.refl w2).alloc (.cells #[.int .i64 W, .int .i64 H, .slice (some ⟨g2, 0, none⟩) N k2] 24))
  clear ho2 hgr hsl hg2 z1
  go_wp2_with fail
  replace c1 := cell_gr c1 ((Gr.refl w2).alloc (.cells #[.int .i64 W, .int .i64 H, .slice (some ⟨g2, 0, none⟩) N k2] 24))
  replace c2 := cell_gr c2 ((Gr.refl w2).alloc (.cells #[.int .i64 W, .int .i64 H, .slice (some ⟨g2, 0, none⟩) N k2] 24))
  replace c3 := cell_gr c3 ((Gr.refl w2).alloc (.cells #[.int .i64 W, .int .i64 H, .slice (some ⟨g2, 0, none⟩) N k2] 24))
  replace hgr2 := hgr2.alloc (.cells #[.int .i64 W, .int .i64 H, .slice (some ⟨g2, 0, none⟩) N k2] 24)
  generalize (w2.alloc (.cells #[.int .i64 W, .int .i64 H, .slice (some ⟨g2, 0, none⟩) N k2] 24)) = u2 at *
  generalize w2.heap.size = B8 at *
  refine (HP.out _ hslx).mono ?_
  rintro e w3 ⟨⟨g3, k3, rfl, ho3⟩, hg3⟩
  obtain ⟨r1, r2, -, -, sl3⟩ := ho3.sl
  have hgr3 := hgr2.trans hg3
  go_wp2_with fail
  refine (HG.out _ _ _ hgr3 sl3 r1 r2).mono ?_
  rintro e w4 ⟨⟨g4, rfl, sl4⟩, hg4⟩
  have hg34 := hg3.trans hg4
  replace c1 := cell_gr c1 hg34
  replace c2 := cell_gr c2 hg34
  replace c3 := cell_gr c3 hg34
  replace d1 := cell_gr d1 hg34
  replace d2 := cell_gr d2 hg34
  replace d3 := cell_gr d3 hg34
  have sm4 := hslx.gr hg34
  have sw4 := sl8.gr hg34
  have hgr4 := hgr2.trans hg34
  obtain ⟨x1, x2, x3⟩ := tri_cells w4 W H (.slice (some ⟨g4, 0, none⟩) N N) 24
  have ga4 := (Gr.refl w4).alloc (.cells #[.int .i64 W, .int .i64 H, .slice (some ⟨g4, 0, none⟩) N N] 24)
  replace c1 := cell_gr c1 ga4
  replace c2 := cell_gr c2 ga4
  replace c3 := cell_gr c3 ga4
  replace d1 := cell_gr d1 ga4
  replace d2 := cell_gr d2 ga4
  replace d3 := cell_gr d3 ga4
  replace sm4 := sm4.gr ga4
  replace sw4 := sw4.gr ga4
  replace sl4 := sl4.gr ga4
  replace hgr4 := hgr4.trans ga4
  clear hg34 hg3 hg4 ho3 sl3 hgr3 hgr2 hslx sl8 r1 r2 HG HP HO hlen hsm
  go_wp2_with fail
  generalize (w4.alloc (.cells #[.int .i64 W, .int .i64 H, .slice (some ⟨g4, 0, none⟩) N N] 24)) = u4 at *
  generalize w4.heap.size = B11 at *
  refine (HTD.out _ hgr4).mono ?_
  rintro e w5 ⟨rfl, hg5⟩
  replace c1 := cell_gr c1 hg5
  replace c2 := cell_gr c2 hg5
  replace c3 := cell_gr c3 hg5
  replace d1 := cell_gr d1 hg5
  replace d2 := cell_gr d2 hg5
  replace d3 := cell_gr d3 hg5
  replace x1 := cell_gr x1 hg5
  replace x2 := cell_gr x2 hg5
  replace x3 := cell_gr x3 hg5
  have HSMM := hide (sm4.gr hg5)
  have HSMW := hide (sw4.gr hg5)
  have HSMX := hide (sl4.gr hg5)
  have hgr5 := hgr4.trans hg5
  clear sm4 sw4 sl4 hgr4 hg5
  go_wp2_with (first | (go_at_call 27; refine (asame_any _ _ _ _ _ _ _ _ _ _ F F _ HSMX.out HSMW.out).mono ?_; rintro e w6 ⟨rfl, hg6⟩; rw [HSM.out]; replace c1 := cell_gr c1 hg6; replace c2 := cell_gr c2 hg6; replace c3 := cell_gr c3 hg6; replace d1 := cell_gr d1 hg6; replace d2 := cell_gr d2 hg6; replace d3 := cell_gr d3 hg6; replace x1 := cell_gr x1 hg6; replace x2 := cell_gr x2 hg6; replace x3 := cell_gr x3 hg6) | (go_at_call_of 25 g4; refine (rsameM_any _ _ _ _ (some ⟨g4, 0, none⟩) _ _ _ _ _ F F _ (HSMX.out.gr hg6) (HSMW.out.gr hg6)).mono ?_; rintro e w7 ⟨rfl, hg7⟩; rw [HSM.out]; replace c1 := cell_gr c1 hg7; replace c2 := cell_gr c2 hg7; replace c3 := cell_gr c3 hg7; replace d1 := cell_gr d1 hg7; replace d2 := cell_gr d2 hg7; replace d3 := cell_gr d3 hg7) | (go_at_call_of 25 g; refine (rsameM_any _ _ _ _ (some ⟨g, 0, none⟩) _ _ _ _ _ F F _ ((HSMM.out.gr hg6).gr hg7) ((HSMW.out.gr hg6).gr hg7)).mono ?_; rintro e w8 ⟨rfl, hg8⟩; rw [HSM.out]))
  go_ret
  exact ⟨ret_bool (by simp), hgr5.trans (hg6.trans (hg7.trans hg8))⟩

end Go.Proofs.YtakmiafloolpmaaDoor
