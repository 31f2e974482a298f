/- The example of the document: it answers true. At most 24 numbers. No condition. -/
import Derived.Test.YtlnbolaaaahoaaaFWalk10
import Derived.Test.YtlnbolaaaahoaaaBX2
namespace Go.Proofs.Ytlnbolaaaahoaaa
open Go.RowKit
set_option maxRecDepth 20000

theorem go_congr {nb : Int → Int → Int} {f F G : Nat → Int} {n : Nat} {L : List Sd} (hg : Gph nb f n) (he : ∀ i, i < n → G i = F i) {c : Nat} (hc : c < n) {d : Int} (d0 : 0 ≤ d) (d4 : d ≤ 4) : goF nb f G L c d = goF nb f F L c d := by
  unfold goF
  by_cases hn : nxF nb c d < 0
  · rw [if_pos hn, if_pos hn]
  · rw [if_neg hn, if_neg hn]
    have h4 : d ≠ 4 := fun e => hn (by unfold nxF; rw [if_pos e]; omega)
    have e1 : nxF nb c d = nb c d := by unfold nxF; rw [if_neg h4]
    have := (hg.sym c (nxF nb c d).toNat d d0 (by omega) (by omega) hc).1
    rw [he _ this]
theorem dirF_congr {nb : Int → Int → Int} {f F G : Nat → Int} {n : Nat} {L : List Sd} (hg : Gph nb f n) (he : ∀ i, i < n → G i = F i) {c : Nat} (hc : c < n) : dirF nb f G L c = dirF nb f F L c := by
  unfold dirF
  rw [he c hc, go_congr hg he hc (d := 4) (by omega) (by omega), go_congr hg he hc (d := 0) (by omega) (by omega), go_congr hg he hc (d := 1) (by omega) (by omega), go_congr hg he hc (d := 2) (by omega) (by omega), go_congr hg he hc (d := 3) (by omega) (by omega)]
theorem told_dir : dirF (nearF 3 1 3 f9) f9 d9 [((2, 4, 0) : Sd)] 0 = 1 ∧ dirF (nearF 3 1 3 f9) f9 d9 [((2, 4, 0) : Sd)] 1 = 1 ∧ dirF (nearF 3 1 3 f9) f9 d9 [((2, 4, 0) : Sd)] 2 = 4 := by decide
theorem told_went {D : Nat → Int} (D0 : D 0 = 1) (D1 : D 1 = 1) : Went (nearF 3 1 3 f9) D 3 0 2 ∧ posF (nearF 3 1 3 f9) D 0 0 = 0 ∧ posF (nearF 3 1 3 f9) D 0 1 = 1 ∧ posF (nearF 3 1 3 f9) D 0 2 = 2 := by
  have h0 : hopF (nearF 3 1 3 f9) D 0 = 1 := by unfold hopF; rw [D0]; decide
  have h1 : hopF (nearF 3 1 3 f9) D 1 = 2 := by unfold hopF; rw [D1]; decide
  have p1 : posF (nearF 3 1 3 f9) D 0 1 = 1 := by
    show (hopF (nearF 3 1 3 f9) D 0).toNat = 1
    rw [h0]; rfl
  have p2 : posF (nearF 3 1 3 f9) D 0 2 = 2 := by
    show (hopF (nearF 3 1 3 f9) D (posF (nearF 3 1 3 f9) D 0 1)).toNat = 2
    rw [p1, h1]; rfl
  refine ⟨⟨fun i hi => ?_, .inl rfl, by omega⟩, rfl, p1, p2⟩
  rcases (by omega : i = 0 ∨ i = 1) with rfl | rfl
  · show 0 ≤ hopF (nearF 3 1 3 f9) D 0
    omega
  · rw [p1]; omega

set_option maxHeartbeats 2000000 in
theorem told10_any (w : World) : Calls Try.prog 8 #[] w fun e w' => e = .returned (.bool true) ∧ Gr w w' := by
  have hb := three_bytes w
  obtain ⟨w1, hw1⟩ : ∃ w1, w1 = w.alloc (.cells #[.int .u8 5, .int .u8 2, .int .u8 9] 5) := ⟨_, rfl⟩
  have g1 : Gr w w1 := hw1 ▸ (Gr.refl w).alloc _
  rw [← hw1] at hb
  have s1 : w1.heap.size = w.heap.size + 1 := by rw [hw1, World.size_alloc]
  obtain ⟨c1, c2, c3⟩ := tri_at w1 3 1 (.slice (some ⟨w.heap.size, 0, none⟩) 3 3)
  obtain ⟨w2, hw2⟩ : ∃ w2, w2 = w1.alloc (.cells #[.int .i64 3, .int .i64 1, .slice (some ⟨w.heap.size, 0, none⟩) 3 3] 24) := ⟨_, rfl⟩
  have g2 : Gr w1 w2 := hw2 ▸ (Gr.refl w1).alloc _
  rw [← hw2] at c1 c2 c3
  have s2 : w2.heap.size = w.heap.size + 1 + 1 := by rw [hw2, World.size_alloc, s1]
  have hs := seeds_one w2 (2, 4, 0)
  simp only at hs
  obtain ⟨w3, hw3⟩ : ∃ w3, w3 = w2.alloc (.cells #[.int .i64 2, .int .i64 4, .int .i64 0] 50) := ⟨_, rfl⟩
  have g3 : Gr w2 w3 := hw3 ▸ (Gr.refl w2).alloc _
  rw [← hw3, s2] at hs
  rw [s1] at c1 c2 c3
  replace c1 := cell_gr c1 g3
  replace c2 := cell_gr c2 g3
  replace c3 := cell_gr c3 g3
  replace hb := (hb.gr g2).gr g3
  have hgr := (g1.trans g2).trans g3
  obtain ⟨hm, hsd⟩ := sds_of f9_byte told_may
  go_enter Try.func8, Try.ntmps8
  go_wp2_with fail
  rw [← hw1, ← hw2, ← hw3]
  clear hw1 hw2 hw3 s1 s2 g1 g2 g3
  generalize w.heap.size = B at *
  refine (field_yes hb hs (.inr ⟨_, _, rfl⟩) told_may hsd (by omega) (by omega) (by omega)).mono ?_
  rintro e w4 ⟨⟨ga, cf, gd, F, D, rfl, hfar, hdir, hsp, hD⟩, hg4⟩
  have hF : ∀ i, i < 3 → F i = d9 i := fun i hi => hsp.uniq told_sprd hi
  have hgph := gph_of hm f9_byte
  have e0 := hF 0 (by omega)
  have e1 := hF 1 (by omega)
  have e2 := hF 2 (by omega)
  have D0 : D 0 = 1 := by rw [hD 0 (by omega), dirF_congr hgph hF (by omega)]; exact told_dir.1
  have D1 : D 1 = 1 := by rw [hD 1 (by omega), dirF_congr hgph hF (by omega)]; exact told_dir.2.1
  have D2 : D 2 = 4 := by rw [hD 2 (by omega), dirF_congr hgph hF (by omega)]; exact told_dir.2.2
  replace c1 := cell_gr c1 hg4
  replace c2 := cell_gr c2 hg4
  replace c3 := cell_gr c3 hg4
  replace hb := hb.gr hg4
  replace hgr := hgr.trans hg4
  have hr := pair_alloc w4 (.slice (some ⟨ga, 0, none⟩) 3 cf) (.slice (some ⟨gd, 0, none⟩) 3 3) 33
  obtain ⟨w5, hw5⟩ : ∃ w5, w5 = w4.alloc (.cells #[.slice (some ⟨ga, 0, none⟩) 3 cf, .slice (some ⟨gd, 0, none⟩) 3 3] 33) := ⟨_, rfl⟩
  have g5 : Gr w4 w5 := hw5 ▸ (Gr.refl w4).alloc _
  rw [← hw5] at hr
  replace c1 := cell_gr c1 g5
  replace c2 := cell_gr c2 g5
  replace c3 := cell_gr c3 g5
  replace hb := hb.gr g5
  replace hgr := hgr.trans g5
  have hsf := hfar.sli.gr g5
  have hsg := hdir.sli.gr g5
  obtain ⟨d1, d2, -, -⟩ := pair_at hr
  clear hsp hD hg4 hfar hdir hs hF hr
  go_upto_region 3 with fail
  rw [← hw5]
  clear hw5 g5
  generalize w4.heap.size = B2 at *
  go_wp2_with fail
  refine (walk_yes (l := 0) hb hm (by omega) hsg).mono ?_
  rintro e w6 ⟨⟨j, a, c, rfl, hwent, hsw, -⟩, hg6⟩
  obtain ⟨hw2, p0, p1, p2⟩ := told_went D0 D1
  obtain rfl := hwent.uniq hw2
  rw [p2, D2]
  replace d1 := cell_gr d1 hg6
  replace d2 := cell_gr d2 hg6
  replace hsf := hsf.gr hg6
  replace hsg := hsg.gr hg6
  replace hgr := hgr.trans hg6
  have q0 : ((posF (nearF 3 1 3 f9) D 0 0 : Nat) : Int) = 0 := by rw [p0]; rfl
  have q1 : ((posF (nearF 3 1 3 f9) D 0 1 : Nat) : Int) = 1 := by rw [p1]; rfl
  have q2 : ((posF (nearF 3 1 3 f9) D 0 2 : Nat) : Int) = 2 := by rw [p2]; rfl
  obtain ⟨P, hP⟩ : ∃ P : Nat → Int, P = fun i => ((posF (nearF 3 1 3 f9) D 0 i : Nat) : Int) := ⟨_, rfl⟩
  have r0 : P 0 = 0 := by rw [hP]; exact q0
  have r1 : P 1 = 1 := by rw [hP]; exact q1
  have r2 : P 2 = 2 := by rw [hP]; exact q2
  rw [← hP] at hsw
  have hsw' : SlI w6 a 3 P := hsw
  replace hsw := hsw'
  clear hsw' hwent hw2 p0 p1 p2 q0 q1 q2 hP hg6 hb c1 c2 c3
  have hI1 := three_ints w6 11 9 0 F e0 e1 e2
  obtain ⟨v1, hv1⟩ : ∃ v, v = w6.alloc (.cells #[.int .i64 11, .int .i64 9, .int .i64 0] 3) := ⟨_, rfl⟩
  have gv1 : Gr w6 v1 := hv1 ▸ (Gr.refl w6).alloc _
  rw [← hv1] at hI1
  go_wp2_with fail
  rw [← hv1]
  clear hv1
  generalize w6.heap.size = C1 at *
  replace d2 := cell_gr d2 gv1
  refine (ints_same _ _ 3 _ _ F v1 (hsf.gr gv1) hI1 (by omega)).mono ?_
  rintro e x1 ⟨rfl, hd1⟩
  replace d2 := cell_gr d2 hd1.gr
  replace hsg := (hsg.gr gv1).gr hd1.gr
  replace hsw := (hsw.gr gv1).gr hd1.gr
  replace hgr := (hgr.trans gv1).trans hd1.gr
  clear gv1 hI1 hd1
  have hI2 := three_ints x1 1 1 4 D D0 D1 D2
  obtain ⟨v2, hv2⟩ : ∃ v, v = x1.alloc (.cells #[.int .i64 1, .int .i64 1, .int .i64 4] 3) := ⟨_, rfl⟩
  have gv2 : Gr x1 v2 := hv2 ▸ (Gr.refl x1).alloc _
  rw [← hv2] at hI2
  go_wp2_with fail
  rw [← hv2]
  clear hv2
  generalize x1.heap.size = C2 at *
  replace d2 := cell_gr d2 gv2
  refine (ints_same _ _ 3 _ _ D v2 (hsg.gr gv2) hI2 (by omega)).mono ?_
  rintro e x2 ⟨rfl, hd2⟩
  replace d2 := cell_gr d2 hd2.gr
  replace hsg := (hsg.gr gv2).gr hd2.gr
  replace hsw := (hsw.gr gv2).gr hd2.gr
  replace hgr := (hgr.trans gv2).trans hd2.gr
  clear gv2 hI2 hd2
  have hI3 := three_ints x2 0 1 2 P r0 r1 r2
  obtain ⟨v3, hv3⟩ : ∃ v, v = x2.alloc (.cells #[.int .i64 0, .int .i64 1, .int .i64 2] 3) := ⟨_, rfl⟩
  have gv3 : Gr x2 v3 := hv3 ▸ (Gr.refl x2).alloc _
  rw [← hv3] at hI3
  go_wp2_with fail
  rw [← hv3]
  clear hv3
  generalize x2.heap.size = C3 at *
  replace d2 := cell_gr d2 gv3
  refine (ints_same _ _ 3 _ _ P v3 (hsw.gr gv3) hI3 (by omega)).mono ?_
  rintro e x3 ⟨rfl, hd3⟩
  replace d2 := cell_gr d2 hd3.gr
  replace hsg := (hsg.gr gv3).gr hd3.gr
  replace hsw := (hsw.gr gv3).gr hd3.gr
  replace hgr := (hgr.trans gv3).trans hd3.gr
  clear gv3 hI3 hd3
  go_wp2_with fail
  go_ret
  exact ⟨rfl, hgr⟩

set_option maxHeartbeats 1000000 in
theorem few10_any (a : Option Addr) (n c : Nat) (z : Nat → Int) (w : World) (h : SlI w a n z) (hc : n ≤ c) (hm : c ≤ maxLen) (ha : a = none → n = 0 ∧ c = 0) :
    Calls Try.prog 12 #[.slice a n c] w fun e w' => (∃ k, k ≤ 24 ∧ k ≤ n ∧ e = .returned (.slice a k c) ∧ SlI w' a k z) ∧ Gr w w' := by
  unfold maxLen at hm
  have hi : ∀ k, k ≤ n → SlI w a k z := fun k hk => by
    rcases h with h | ⟨b, o, e, hb, hcell⟩
    · exact .inl (by omega)
    · exact .inr ⟨b, o, e, hb, fun i hi => hcell i (by omega)⟩
  have HI := hide hi
  clear hi h
  cases a with
  | none =>
    obtain ⟨rfl, rfl⟩ := ha rfl
    go_enter Try.func12, Try.ntmps12
    go_wp2_with fail
    go_ret
    exact ⟨⟨0, by omega, by omega, rfl, HI.out 0 (Nat.le_refl _)⟩, Gr.refl _⟩
  | some x =>
    clear ha
    by_cases h24 : n ≤ 24
    · have e : min (n : Int) 24 = (n : Int) := by omega
      have n0 : (0 : Int) ≤ (n : Int) := by omega
      have nc : (n : Int) ≤ (c : Int) := by omega
      go_enter Try.func12, Try.ntmps12
      go_wp2_with fail
      go_ret
      exact ⟨⟨n, h24, Nat.le_refl _, rfl, HI.out n (Nat.le_refl _)⟩, Gr.refl _⟩
    · have e : min (n : Int) 24 = 24 := by omega
      have nc : (24 : Int) ≤ (c : Int) := by omega
      go_enter Try.func12, Try.ntmps12
      go_wp2_with fail
      go_ret
      exact ⟨⟨24, Nat.le_refl _, by omega, rfl, HI.out 24 (by omega)⟩, Gr.refl _⟩
end Go.Proofs.Ytlnbolaaaahoaaa
