/- What the document answers of form 0. -/
import Derived.Test.YtcbcekgjpcpibaaDoorRPlain
namespace Go.Proofs.YtcbcekgjpcpibaaDoor
open Go.RowKit
set_option maxRecDepth 20000

set_option maxHeartbeats 4000000 in
theorem rget_alike (a : Option Addr) (B cap : Nat) (W H : Int) (n : Nat) (b : Nat → Int) (w : World) (h : Sl w a B b) (hB : 0 < B) (hc : B ≤ cap) (hW : 1 ≤ W ∧ W ≤ 16) (hH : 1 ≤ H ∧ H ≤ 16) (hn : (n : Int) = W * H) (h0 : b 0 = 0) :
    Calls Tryd.prog 10 #[.slice a B cap, .int .i64 W, .int .i64 H] w fun e w' => (∃ v, e = .returned v ∧ Gets w' W H (getL n B b) v) ∧ Gr w w' := by
  obtain ⟨i0, hi, hz0, hz1, hz2⟩ := info_parts info_u8
  obtain ⟨bb, oo, rfl, hbb, hcell⟩ := h.at hB
  have c0' := hcell 0 hB
  rw [Nat.add_zero] at c0'
  have m := mul_bd (w := W) (h := H) (W := 16) (H := 16) (by omega) (by omega) (by omega) (by omega)
  have mc := Int.mul_le_mul hW.1 hH.1 (by omega) (by omega : (0 : Int) ≤ W)
  have n1 : 1 ≤ n := by omega
  have n2 : n ≤ 256 := by omega
  have hnw : W * H = (n : Int) := hn.symm
  have b0 : (b 0 == 0) = true := by simp [h0]
  have hBi : ((B : Int) == 0) = false := by rw [beq_eq_false_iff_ne]; omega
  by_cases hs : B < 2
  · have HG : Hid (getL n B b = (2, [], 0)) := hide (by
      have R : readL n B b = (2, [], 0) := by unfold readL; rw [if_neg (by omega), if_pos h0, if_pos hs]
      unfold getL; rw [R, if_pos (by simp)])
    have hs' : (B : Int) < 2 := by omega
    clear hcell h0 hn
    go_enter Tryd.func10, Tryd.ntmps10
    go_wp2_with fail
    refine (in_yes _ _ _ _ (by omega) (by omega)).mono ?_
    rintro e w3 ⟨rfl, q3, rfl⟩
    go_wp2_with fail
    refine (in_yes _ _ _ _ (by omega) (by omega)).mono ?_
    rintro e w4 ⟨rfl, q4, hq4⟩
    obtain ⟨hg4, hz4⟩ := two_draws hq4
    clear hq4
    replace c0' := cell_gr c0' ((((Gr.refl w).alloc _).alloc _).trans hg4)
    have hnb : ¬ bb = w.heap.size + 2 := by omega
    have hlb : bb < w.heap.size + 2 := by omega
    have HST := hide (St.first4 (W := W) (H := H) hg4 hz4)
    obtain ⟨⟨y0, y1, y2⟩, ⟨z0, z1, z2⟩, f0, f1, f2⟩ := two_rows hg4
    clear HST
    go_wp2
    exact bodyPost_ret (v := .tuple #[.agg #[.int .i64 0, .int .i64 0, .slice none 0 0], .int .i64 0, .int .i64 2]) (by simp [results, Tryd.results10, go_sem, hz4, z0, z1, z2]) rfl ⟨⟨_, rfl, by rw [HG.out]; exact .inr ⟨by simp, rfl⟩⟩, (gr_set3 ((((Gr.refl w).alloc _).alloc _).trans hg4) (Nat.le_refl _)).alloc _⟩
  have c1' := hcell 1 (by omega)
  have hxb := h.byte 1 (by omega)
  obtain ⟨x, hx⟩ : ∃ x, x = b 1 := ⟨_, rfl⟩
  have hT := tail_eq (n := n) (B := B) (u := 2) (b := b) (L := List.replicate n x) h.byte n1
    (fun e => by
      have := (fullB_iff _ _).1 e 0 (by omega)
      rw [at0_rep (by omega), hx] at this
      unfold readL; rw [if_neg (by omega), if_pos h0, if_neg hs, if_neg this, hx])
    (fun e => by
      obtain ⟨i, hi, hi0⟩ := (fullB_false _ _).1 e
      rw [at0_rep hi, hx] at hi0
      unfold readL; rw [if_neg (by omega), if_pos h0, if_neg hs, if_pos hi0])
  have HT := hide hT
  rw [← hx] at c1' hxb
  have HC1 := hide c1'
  clear c1'
  have huB : 2 ≤ B := by omega
  have hs' : ¬ (B : Int) < 2 := by omega
  have hs1 : (1 : Int) < B := by omega
  have hs2 : (2 : Int) ≤ cap := by omega
  have hs3 : 2 ≤ cap := by omega
  clear hcell h0 hn hx hT
  go_enter Tryd.func10, Tryd.ntmps10
  go_wp2_with fail
  refine (in_yes _ _ _ _ (by omega) (by omega)).mono ?_
  rintro e w3 ⟨rfl, q3, rfl⟩
  go_wp2_with fail
  refine (in_yes _ _ _ _ (by omega) (by omega)).mono ?_
  rintro e w4 ⟨rfl, q4, hq4⟩
  obtain ⟨hg4, hz4⟩ := two_draws hq4
  clear hq4
  replace c0' := cell_gr c0' ((((Gr.refl w).alloc _).alloc _).trans hg4)
  have hnb : ¬ bb = w.heap.size + 2 := by omega
  have hlb : bb < w.heap.size + 2 := by omega
  have HST := hide (St.first4 (W := W) (H := H) hg4 hz4)
  obtain ⟨⟨y0, y1, y2⟩, ⟨z0, z1, z2⟩, f0, f1, f2⟩ := two_rows hg4
  clear z0 z1 z2 f0 f1 f2 y0 y1 y2
  go_wp2_with fail
  have hst0 := HST.out
  clear HST c0'
  generalize (w4.alloc (.cells #[.int .i64 W, .int .i64 H, .slice none 0 0] 26)) = u1 at *
  go_loopw [13] (fun s u => ∃ (k : Nat) (a0 : Option Addr) (c0 : Nat), k ≤ n ∧ s = .int .i64 k ∧ St w u W H a0 c0 (List.replicate k x) ) (fun s _ => n - (intOf s).toNat)
  case atStart => exact ⟨0, none, 0, Nat.zero_le _, rfl, hst0⟩
  case round =>
    obtain ⟨k, a0, c0, hk, rfl, hst⟩ := hrel
    clear hst0
    by_cases hlt : k < n
    · obtain ⟨⟨x0, x1, x2, xf⟩, -, -, -, -, -, xl⟩ := hst.cells
      have c1' := cell_gr HC1.out hst.gr
      have hbr : bb < wr.heap.size := World.block_lt_of_cell? wr ⟨bb, oo + 1, none⟩ c1'
      have HS0 := hide hst
      clear hst
      rw [List.length_replicate] at x2
      go_wp2
      go_region_law (refine step_append_own rfl (.tmp 55) (.tmp 59) 22 rfl (w.heap.size + 3) 5 i0 (.int .u8 0) 1 1 Tryd.underlying22 hi hz0 hz1 hz2 rfl (by decide) (.slice a0 (List.replicate k x).length c0) (List.replicate k x).length ((List.replicate k x).map (Value.int .u8)) (by simp [Act.eval]) (own_gr HS0.out.own (by (repeat (first | (with_reducible exact Gr.refl _) | (with_reducible assumption) | (with_reducible refine Gr.alloc ?_ _) | (with_reducible refine Gr.drew ?_) | (with_reducible refine Gr.set ?_ (by dsimp only; omega) _) | (with_reducible refine Gr.trans ?_ (by with_reducible assumption)))); first | done | fail)) ⟨wr.heap.size, 0, none⟩ 1 1 ([x].map (Value.int .u8)) (by simp [Act.eval]) rfl (alloc_one wr _ _) (map_one _ _) (by rw [List.length_replicate]; unfold maxLen; omega) (by rw [List.length_replicate]; omega) (Nat.le_trans (show w.heap.size + 3 ≤ wr.heap.size + 1 by omega) (Nat.le_of_eq (World.size_alloc wr _).symm)) ?_; intro v' w5 hown5 hgrow5; obtain ⟨a1, c1, rfl, o1, s2, s1, s0, g5⟩ := HS0.out.step (M := [x]) (by (repeat (first | (with_reducible exact Gr.refl _) | (with_reducible assumption) | (with_reducible refine Gr.alloc ?_ _) | (with_reducible refine Gr.drew ?_) | (with_reducible refine Gr.set ?_ (by dsimp only; omega) _) | (with_reducible refine Gr.trans ?_ (by with_reducible assumption)))); first | done | fail) rfl hown5 hgrow5; have d3 := s2.cell (i := 2) (by omega); rw [tri_2] at d3; have g3 := s2.frozen 2; have HN := hide (St.next o1 s2 s1 s0 g5); clear hown5 hgrow5 o1 s2 s1 s0)
      all_goals
        go_wp2
        go_roundw
        case rel =>
          have e := HN.out
          rw [← List.replicate_succ'] at e
          refine ⟨k + 1, a1, c1, by omega, by go_num, ?_⟩
          simpa using e
        case measure => simp [intOf]; omega
    · have hkn : n = k := by omega
      subst hkn
      have hLb : ∀ z ∈ List.replicate n x, 0 ≤ z ∧ z ≤ 255 := fun z hz => by rw [(List.mem_replicate.1 hz).2]; exact hxb
      have hLn : (List.replicate n x).length = n := List.length_replicate
      generalize List.replicate n x = L at *
      subst hLn
      clear HC1
      generalize wr = u5 at *
      obtain ⟨g, rfl, hob⟩ := hst.sl hLb (by omega)
      obtain ⟨p1, p2, -, -, hsl⟩ := hob.sl
      obtain ⟨⟨x0, x1, x2, -⟩, ⟨y0, y1, y2⟩, ⟨z0, z1, z2⟩, f0, f1, f2, hlt⟩ := hst.cells
      clear hob
      cases hfu : fullB L.length (at0 L)
      · have HG := hide (HT.out.1 hfu)
        go_wp2_with (go_at_call 19; refine (full_any _ _ _ (at0 L) _ hsl (by unfold maxLen; omega)).mono ?_; rintro e w6 ⟨rfl, hw6⟩; subst hw6; rw [hfu])
        exact bodyPost_ret (v := .tuple #[.agg #[.int .i64 0, .int .i64 0, .slice none 0 0], .int .i64 0, .int .i64 3]) (by simp [results, Tryd.results10, go_sem, z0, z1, z2]) rfl ⟨⟨_, rfl, by rw [HG.out]; exact .inr ⟨by simp, rfl⟩⟩, gr_set3 (by first | exact hst.gr | exact hst.gr.trans hg7) (Nat.le_refl _)⟩
      · cases hsm : sameB (putL L.length (at0 L)).length (at0 (putL L.length (at0 L))) 2 b
        · have HG := hide (HT.out.2.1 hfu hsm)
          clear x0 x1 y0 y1 y2 z0 z1 z2 f0 f1 f2 hlt
          obtain ⟨⟨x0, x1, -, -⟩, -⟩ := hst.cells
          go_wp2_with (first | (go_at_call 19; refine (full_any _ _ _ (at0 L) _ hsl (by unfold maxLen; omega)).mono ?_; rintro e w6 ⟨rfl, hw6⟩; subst hw6; rw [hfu]) | (go_at_call 20; refine (rput_any _ _ _ _ _ (at0 L) _ hsl (by omega) (by omega)).mono ?_; rintro e w7 ⟨⟨g7, k7, rfl, ho7⟩, hg7⟩; have hs7 := hst.of hg7; obtain ⟨⟨x0, x1, x2, -⟩, ⟨y0, y1, y2⟩, ⟨z0, z1, z2⟩, f0, f1, f2, hlt⟩ := hs7.cells; have sl7 := ho7.sl.2.2.2.2; have HS7 := hide hs7; clear ho7 hs7) | (go_at_call 12; refine (rbytes_any _ _ _ _ _ _ (at0 (putL L.length (at0 L))) b _ sl7 (((h.take huB).gr hst.gr).gr hg7)).mono ?_; rintro e w8 ⟨rfl, hw8⟩; subst hw8; rw [hsm]))
          exact bodyPost_ret (v := .tuple #[.agg #[.int .i64 0, .int .i64 0, .slice none 0 0], .int .i64 0, .int .i64 3]) (by simp [results, Tryd.results10, go_sem, z0, z1, z2]) rfl ⟨⟨_, rfl, by rw [HG.out]; exact .inr ⟨by simp, rfl⟩⟩, gr_set3 (hst.gr.trans hg7) (Nat.le_refl _)⟩
        · have HG := hide (HT.out.2.2 hfu hsm)
          clear x0 x1 y0 y1 y2 z0 z1 z2 f0 f1 f2 hlt
          obtain ⟨⟨x0, x1, -, -⟩, -⟩ := hst.cells
          go_wp2_with (first | (go_at_call 19; refine (full_any _ _ _ (at0 L) _ hsl (by unfold maxLen; omega)).mono ?_; rintro e w6 ⟨rfl, hw6⟩; subst hw6; rw [hfu]) | (go_at_call 20; refine (rput_any _ _ _ _ _ (at0 L) _ hsl (by omega) (by omega)).mono ?_; rintro e w7 ⟨⟨g7, k7, rfl, ho7⟩, hg7⟩; have hs7 := hst.of hg7; obtain ⟨⟨x0, x1, x2, -⟩, ⟨y0, y1, y2⟩, ⟨z0, z1, z2⟩, f0, f1, f2, hlt⟩ := hs7.cells; have sl7 := ho7.sl.2.2.2.2; have HS7 := hide hs7; clear ho7 hs7) | (go_at_call 12; refine (rbytes_any _ _ _ _ _ _ (at0 (putL L.length (at0 L))) b _ sl7 (((h.take huB).gr hst.gr).gr hg7)).mono ?_; rintro e w8 ⟨rfl, hw8⟩; subst hw8; rw [hsm]))
          have hap := sl_apart (hsl.gr hg7) (by omega) z0
          exact bodyPost_ret (v := .tuple #[.agg #[.int .i64 W, .int .i64 H, .slice (some ⟨g, 0, none⟩) L.length c0], .int .i64 2, .int .i64 0]) (by simp [results, Tryd.results10, go_sem, z0, z1, z2]) rfl ⟨⟨_, rfl, by
            rw [HG.out]
            exact .inl ⟨rfl, g, c0, rfl, p1, p2, (((hsl.gr hg7).setF (p := ⟨w.heap.size, 0, none⟩) hap).setF (p := ⟨w.heap.size, 1, none⟩) hap).setF (p := ⟨w.heap.size, 2, none⟩) hap⟩⟩, gr_set3 (hst.gr.trans hg7) (Nat.le_refl _)⟩

end Go.Proofs.YtcbcekgjpcpibaaDoor
