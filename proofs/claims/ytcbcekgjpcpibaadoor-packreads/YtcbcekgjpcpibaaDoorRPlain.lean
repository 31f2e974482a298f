/- What the document answers of form 1. -/
import Derived.Test.YtcbcekgjpcpibaaDoorRGet2
namespace Go.Proofs.YtcbcekgjpcpibaaDoor
open Go.RowKit
set_option maxRecDepth 20000

set_option maxHeartbeats 4000000 in
theorem rget_plain (a : Option Addr) (B cap : Nat) (W H : Int) (n : Nat) (b : Nat → Int) (w : World) (h : Sl w a B b) (hB : 0 < B) (hc : B ≤ cap) (hB7 : B ≤ 1000000) (hW : 1 ≤ W ∧ W ≤ 16) (hH : 1 ≤ H ∧ H ≤ 16) (hn : (n : Int) = W * H) (h0 : b 0 = 1) :
    Calls Tryd.prog 10 #[.slice a B cap, .int .i64 W, .int .i64 H] w fun e w' => (∃ v, e = .returned v ∧ Gets w' W H (getL n B b) v) ∧ Gr w w' := by
  obtain ⟨i0, hi, hz0, hz1, hz2⟩ := info_parts info_u8
  obtain ⟨bb, oo, rfl, hbb, hcell⟩ := h.at hB
  have c0' := hcell 0 hB
  rw [Nat.add_zero] at c0'
  have m := mul_bd (w := W) (h := H) (W := 16) (H := 16) (by omega) (by omega) (by omega) (by omega)
  have mc := Int.mul_le_mul hW.1 hH.1 (by omega) (by omega : (0 : Int) ≤ W)
  have n1 : 1 ≤ n := by omega
  have n2 : n ≤ 256 := by omega
  have hnw : W * H = (n : Int) := hn.symm
  have b0 : (b 0 == 0) = false := by simp [h0]
  have b1 : (b 0 == 1) = true := by simp [h0]
  have hBi : ((B : Int) == 0) = false := by rw [beq_eq_false_iff_ne]; omega
  by_cases hs : B < 1 + n
  · have HG : Hid (getL n B b = (2, [], 0)) := hide (by
      have R : readL n B b = (2, [], 0) := by unfold readL; rw [if_neg (by omega), if_neg (by omega), if_pos h0, if_pos hs]
      unfold getL; rw [R, if_pos (by simp)])
    have hs' : (B : Int) - 1 < n := by omega
    clear hcell h0 hn
    go_enter Tryd.func10, Tryd.ntmps10
    go_wp2_with fail
    refine (in_yes _ _ _ _ (by omega) (by omega)).mono ?_
    rintro e w3 ⟨rfl, q3, rfl⟩
    go_wp2_with fail
    refine (in_yes _ _ _ _ (by omega) (by omega)).mono ?_
    rintro e w4 ⟨rfl, q4, hq4⟩
    obtain ⟨hg4, hz4⟩ := two_draws hq4
    clear hq4
    replace c0' := cell_gr c0' ((((Gr.refl w).alloc _).alloc _).trans hg4)
    have hnb : ¬ bb = w.heap.size + 2 := by omega
    have hlb : bb < w.heap.size + 2 := by omega
    have HST := hide (St.first4 (W := W) (H := H) hg4 hz4)
    obtain ⟨⟨y0, y1, y2⟩, ⟨z0, z1, z2⟩, f0, f1, f2⟩ := two_rows hg4
    clear HST
    go_wp2
    exact bodyPost_ret (v := .tuple #[.agg #[.int .i64 0, .int .i64 0, .slice none 0 0], .int .i64 0, .int .i64 2]) (by simp [results, Tryd.results10, go_sem, hz4, z0, z1, z2]) rfl ⟨⟨_, rfl, by rw [HG.out]; exact .inr ⟨by simp, rfl⟩⟩, (gr_set3 ((((Gr.refl w).alloc _).alloc _).trans hg4) (Nat.le_refl _)).alloc _⟩
  obtain ⟨L, hL⟩ : ∃ L, L = lst n (fun i => b (1 + i)) := ⟨_, rfl⟩
  have hLn : L.length = n := by rw [hL, lst_len]
  have hLa : ∀ i, i < n → at0 L i = b (1 + i) := fun i hi => by rw [hL]; exact at0_lst hi
  have HT := hide (tail_eq (n := n) (B := B) (u := 1 + n) (b := b) (L := L) h.byte n1
    (fun e => by
      have e' : fullB n (fun i => b (1 + i)) = true := (fullB_iff _ _).2 fun i hi => by have := (fullB_iff _ _).1 e i hi; rwa [hLa i hi] at this
      unfold readL; rw [if_neg (by omega), if_neg (by omega), if_pos h0, if_neg hs, if_pos e', hL])
    (fun e => by
      have e' : ¬ fullB n (fun i => b (1 + i)) = true := fun q => by
        have : fullB n (at0 L) = true := (fullB_iff _ _).2 fun i hi => by rw [hLa i hi]; exact (fullB_iff _ _).1 q i hi
        rw [this] at e; cases e
      unfold readL; rw [if_neg (by omega), if_neg (by omega), if_pos h0, if_neg hs, if_neg e']))
  have hLb : ∀ x ∈ L, 0 ≤ x ∧ x ≤ 255 := by
    intro x hx
    rw [hL] at hx
    simp only [lst, List.mem_map, List.mem_range] at hx
    obtain ⟨i, hi, rfl⟩ := hx
    exact h.byte _ (by omega)
  have HCT : Hid (∀ u, Gr w u → ∀ j v, (L.map (Value.int .u8))[j]? = some v → u.cell? ((⟨bb, oo + 1, none⟩ : Addr).add j) = some v) := hide (by
    have hm : L.map (Value.int .u8) = cel .u8 n (fun i => b (1 + i)) := by rw [hL]; simp [lst, cel]
    rw [hm]
    exact fun u hu => cel_at (fun i hi => by rw [Nat.add_assoc]; exact hcell (1 + i) (by omega)) hbb hu)
  have HLB := hide hLb
  clear hL hLa hLb
  subst hLn
  obtain ⟨u, hu⟩ : ∃ u, u = 1 + L.length := ⟨_, rfl⟩
  rw [← hu] at HT
  have huB : u ≤ B := by omega
  have hui : 1 + (L.length : Int) = u := by omega
  have hs' : ¬ (B : Int) - 1 < L.length := by omega
  have hne : ¬ cap = 1 := by omega
  have hs1 : (u : Int) ≤ cap := by omega
  have hs2 : (1 : Int) ≤ (u : Int) := by omega
  have huw : IntKind.i64.wrap (u : Int) = u := wrapI (by omega)
  have hs5 : 0 ≤ (u : Int) := by omega
  have hs6 : u ≤ cap := by omega
  have hs7 : 1 ≤ u := by omega
  have hs3 : (u : Int) - 1 = L.length := by omega
  have hs4 : u - 1 = L.length := by omega
  clear hcell h0 hn hu
  go_enter Tryd.func10, Tryd.ntmps10
  go_wp2_with fail
  refine (in_yes _ _ _ _ (by omega) (by omega)).mono ?_
  rintro e w3 ⟨rfl, q3, rfl⟩
  go_wp2_with fail
  refine (in_yes _ _ _ _ (by omega) (by omega)).mono ?_
  rintro e w4 ⟨rfl, q4, hq4⟩
  obtain ⟨hg4, hz4⟩ := two_draws hq4
  clear hq4
  replace c0' := cell_gr c0' ((((Gr.refl w).alloc _).alloc _).trans hg4)
  have hnb : ¬ bb = w.heap.size + 2 := by omega
  have hlb : bb < w.heap.size + 2 := by omega
  have HST := hide (St.first4 (W := W) (H := H) hg4 hz4)
  obtain ⟨⟨y0, y1, y2⟩, ⟨z0, z1, z2⟩, f0, f1, f2⟩ := two_rows hg4
  clear z0 z1 z2 f0 f1 f2 y0 y1 y2
  go_wp2_with fail
  have hst0 := HST.out
  have hwu : Gr w (w4.alloc (.cells #[.int .i64 W, .int .i64 H, .slice none 0 0] 26)) := hst0.gr
  clear HST
  generalize (w4.alloc (.cells #[.int .i64 W, .int .i64 H, .slice none 0 0] 26)) = u1 at *
  obtain ⟨⟨x0, x1, x2, xf⟩, -, -, -, -, -, xl⟩ := hst0.cells
  have HS0 := hide hst0
  clear hst0 c0'
  go_region_law (refine step_append_own rfl (.tmp 71) (.tmp 75) 22 rfl (w.heap.size + 3) 5 i0 (.int .u8 0) 1 1 Tryd.underlying22 hi hz0 hz1 hz2 rfl (by decide) (.slice none 0 0) 0 [] (by simp [Act.eval]) (World.ownsRow_nil _ _ _ _) ⟨bb, oo + 1, none⟩ L.length (cap - 1) (L.map (Value.int .u8)) (by simp [Act.eval]) (by simp) (HCT.out _ (by (repeat (first | (with_reducible exact Gr.refl _) | (with_reducible assumption) | (with_reducible refine Gr.alloc ?_ _) | (with_reducible refine Gr.drew ?_) | (with_reducible refine Gr.set ?_ (by dsimp only; omega) _) | (with_reducible refine Gr.trans ?_ (by with_reducible assumption)))); first | done | fail)) (map_one _ _) (by unfold maxLen; omega) (by omega) (by first | exact xl | exact Nat.succ_le_of_lt xl) ?_; intro v' w5 hown5 hgrow5; obtain ⟨a1, c1, rfl, o1, s2, s1, s0, g5⟩ := HS0.out.step (M := L) (by (repeat (first | (with_reducible exact Gr.refl _) | (with_reducible assumption) | (with_reducible refine Gr.alloc ?_ _) | (with_reducible refine Gr.drew ?_) | (with_reducible refine Gr.set ?_ (by dsimp only; omega) _) | (with_reducible refine Gr.trans ?_ (by with_reducible assumption)))); first | done | fail) rfl hown5 hgrow5; have d3 := s2.cell (i := 2) (by omega); rw [tri_2] at d3; have g3 := s2.frozen 2; have HN := hide (St.next o1 s2 s1 s0 g5); clear hown5 hgrow5 o1 s2 s1 s0)
  have hst : St w (w5.setCell ⟨w.heap.size + 2, 2, none⟩ (.slice a1 L.length c1)) W H a1 c1 L := HN.out
  have hLb := HLB.out
  clear HN HLB HS0 HCT d3 g3 g5 x0 x1 x2 xf xl hwu
  generalize (w5.setCell ⟨w.heap.size + 2, 2, none⟩ (.slice a1 L.length c1)) = u5 at *
  obtain ⟨g, rfl, hob⟩ := hst.sl hLb (by omega)
  obtain ⟨p1, p2, -, -, hsl⟩ := hob.sl
  obtain ⟨⟨x0, x1, x2, -⟩, ⟨y0, y1, y2⟩, ⟨z0, z1, z2⟩, f0, f1, f2, hlt⟩ := hst.cells
  clear hob
  cases hfu : fullB L.length (at0 L)
  · have HG := hide (HT.out.1 hfu)
    go_wp2_with (go_at_call 19; refine (full_any _ _ _ (at0 L) _ hsl (by unfold maxLen; omega)).mono ?_; rintro e w6 ⟨rfl, hw6⟩; subst hw6; rw [hfu])
    exact bodyPost_ret (v := .tuple #[.agg #[.int .i64 0, .int .i64 0, .slice none 0 0], .int .i64 0, .int .i64 3]) (by simp [results, Tryd.results10, go_sem, z0, z1, z2]) rfl ⟨⟨_, rfl, by rw [HG.out]; exact .inr ⟨by simp, rfl⟩⟩, gr_set3 (by first | exact hst.gr | exact hst.gr.trans hg7) (Nat.le_refl _)⟩
  · cases hsm : sameB (putL L.length (at0 L)).length (at0 (putL L.length (at0 L))) u b
    · have HG := hide (HT.out.2.1 hfu hsm)
      clear x0 x1 y0 y1 y2 z0 z1 z2 f0 f1 f2 hlt
      obtain ⟨⟨x0, x1, -, -⟩, -⟩ := hst.cells
      go_wp2_with (first | (go_at_call 19; refine (full_any _ _ _ (at0 L) _ hsl (by unfold maxLen; omega)).mono ?_; rintro e w6 ⟨rfl, hw6⟩; subst hw6; rw [hfu]) | (go_at_call 20; refine (rput_any _ _ _ _ _ (at0 L) _ hsl (by omega) (by omega)).mono ?_; rintro e w7 ⟨⟨g7, k7, rfl, ho7⟩, hg7⟩; have hs7 := hst.of hg7; obtain ⟨⟨x0, x1, x2, -⟩, ⟨y0, y1, y2⟩, ⟨z0, z1, z2⟩, f0, f1, f2, hlt⟩ := hs7.cells; have sl7 := ho7.sl.2.2.2.2; have HS7 := hide hs7; clear ho7 hs7) | (go_at_call 12; refine (rbytes_any _ _ _ _ _ _ (at0 (putL L.length (at0 L))) b _ sl7 (((h.take huB).gr hst.gr).gr hg7)).mono ?_; rintro e w8 ⟨rfl, hw8⟩; subst hw8; rw [hsm]))
      exact bodyPost_ret (v := .tuple #[.agg #[.int .i64 0, .int .i64 0, .slice none 0 0], .int .i64 0, .int .i64 3]) (by simp [results, Tryd.results10, go_sem, z0, z1, z2]) rfl ⟨⟨_, rfl, by rw [HG.out]; exact .inr ⟨by simp, rfl⟩⟩, gr_set3 (hst.gr.trans hg7) (Nat.le_refl _)⟩
    · have HG := hide (HT.out.2.2 hfu hsm)
      clear x0 x1 y0 y1 y2 z0 z1 z2 f0 f1 f2 hlt
      obtain ⟨⟨x0, x1, -, -⟩, -⟩ := hst.cells
      go_wp2_with (first | (go_at_call 19; refine (full_any _ _ _ (at0 L) _ hsl (by unfold maxLen; omega)).mono ?_; rintro e w6 ⟨rfl, hw6⟩; subst hw6; rw [hfu]) | (go_at_call 20; refine (rput_any _ _ _ _ _ (at0 L) _ hsl (by omega) (by omega)).mono ?_; rintro e w7 ⟨⟨g7, k7, rfl, ho7⟩, hg7⟩; have hs7 := hst.of hg7; obtain ⟨⟨x0, x1, x2, -⟩, ⟨y0, y1, y2⟩, ⟨z0, z1, z2⟩, f0, f1, f2, hlt⟩ := hs7.cells; have sl7 := ho7.sl.2.2.2.2; have HS7 := hide hs7; clear ho7 hs7) | (go_at_call 12; refine (rbytes_any _ _ _ _ _ _ (at0 (putL L.length (at0 L))) b _ sl7 (((h.take huB).gr hst.gr).gr hg7)).mono ?_; rintro e w8 ⟨rfl, hw8⟩; subst hw8; rw [hsm]))
      have hap := sl_apart (hsl.gr hg7) (by omega) z0
      exact bodyPost_ret (v := .tuple #[.agg #[.int .i64 W, .int .i64 H, .slice (some ⟨g, 0, none⟩) L.length c1], .int .i64 u, .int .i64 0]) (by simp [results, Tryd.results10, go_sem, z0, z1, z2]) rfl ⟨⟨_, rfl, by
        rw [HG.out]
        exact .inl ⟨rfl, g, c1, rfl, p1, p2, (((hsl.gr hg7).setF (p := ⟨w.heap.size, 0, none⟩) hap).setF (p := ⟨w.heap.size, 1, none⟩) hap).setF (p := ⟨w.heap.size, 2, none⟩) hap⟩⟩, gr_set3 (hst.gr.trans hg7) (Nat.le_refl _)⟩

end Go.Proofs.YtcbcekgjpcpibaaDoor
