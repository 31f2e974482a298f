/- What atlas.readMap answers, of bytes in memory. -/
import Derived.Test.YtakmiafloolpmaaDoorAGet
namespace Go.Proofs.YtakmiafloolpmaaDoor
open Go.RowKit
set_option maxRecDepth 20000

theorem iface_apart {w : World} {k q t : Nat} {p : Value} {x : Int} (hk : w.cell? ⟨k, 1, none⟩ = some (.iface t p)) (hq : w.cell? ⟨q, 1, none⟩ = some (.int .i64 x)) : k ≠ q := by
  rintro rfl
  rw [hk] at hq
  simp at hq
theorem code_apart0 {w : World} {k q : Nat} {c : Int} (hk : w.cell? ⟨k, 0, none⟩ = some (.int .i64 c)) (hc : c ≠ 0) (hq : w.cell? ⟨q, 0, none⟩ = some (.int .i64 0)) : k ≠ q := by
  rintro rfl
  rw [hk] at hq
  simp at hq
  exact hc hq

set_option maxHeartbeats 4000000 in
theorem readMap_yes (a : Option Addr) (B cap : Nat) (b : Nat → Int) (ga : Nat → Addr) (w : World) (h : Sl w a B b) (hw : Glob w ga) (hc : B ≤ cap) (hcm : cap ≤ maxLen) (hB7 : B ≤ 1000000) (h4 : 4 ≤ B) (hm : mayB (wOf b) (hOf b) = true) :
    Calls Tryd.prog 42 #[.slice a B cap] w fun e w' => (∃ v, e = .returned v ∧ RdM w' B b v) ∧ Gr w w' := by
  have hgm : getM B b = if (rdS (wOf b) (hOf b) B b (cntS (wOf b) (hOf b))).1 ≠ 0 then ((rdS (wOf b) (hOf b) B b (cntS (wOf b) (hOf b))).1, []) else if (rdS (wOf b) (hOf b) B b (cntS (wOf b) (hOf b))).2.2 ≠ B then (3, []) else (0, (rdS (wOf b) (hOf b) B b (cntS (wOf b) (hOf b))).2.1) := by
    unfold getM
    rw [if_neg (by omega), if_neg (by simp [hm])]
  have HGM := hide hgm
  have HOK := hide (fun ts p => rd_ok (W := wOf b) (H := hOf b) h.byte h4 (cntS (wOf b) (hOf b)) ts p (Nat.le_refl _))
  obtain ⟨bb, oo, rfl, hbb, hcell⟩ := h.at (by omega)
  have c0 := hcell 0 (by omega)
  rw [Nat.add_zero] at c0
  have c1 := hcell 1 (by omega)
  have c2 := hcell 2 (by omega)
  have c3 := hcell 3 (by omega)
  have y0 := h.byte 0 (by omega)
  have y1 := h.byte 1 (by omega)
  have y2 := h.byte 2 (by omega)
  have y3 := h.byte 3 (by omega)
  have o1 := or_two y0 y1
  have o2 := or_two y2 y3
  have hW : b 0 + 256 * b 1 = wOf b := rfl
  have hH : b 2 + 256 * b 3 = hOf b := rfl
  rw [hW] at o1
  rw [hH] at o2
  unfold maxLen at hcm
  have HRD := hide (fun (u : World) (a' : Option Addr) (c' : Nat) (hu : Gr w u) (hc' : B - 4 ≤ c') (hcm' : c' ≤ maxLen) (ha : 4 < B → a' = some ⟨bb, oo + 4, none⟩) => readTiles_any (wOf b) (hOf b) B b a' c' ga u ((h.cut (k := 4) (a' := a') (fun hk b' o' e => by cases e; exact ha hk)).gr hu) (hw.gr hu) h.byte h4 hc' hcm' hB7 hm)
  have mm := may_mul hm
  have hcn := cntS_eq hm
  clear h hw hW hH hgm hcell
  generalize hWb : wOf b = W at *
  generalize hHb : hOf b = H at *
  have HWB := hide hWb
  have HHB := hide hHb
  clear hWb hHb
  generalize b 0 = b0 at *
  generalize b 1 = b1 at *
  generalize b 2 = b2 at *
  generalize b 3 = b3 at *
  have i1 : (4 : Int) ≤ (B : Int) := by omega
  have i2 : ¬ (B : Int) < 4 := by omega
  have R1 := hide (tri_alloc w (.int .i64 0) (.int .i64 0) (.slice none 0 0) 24)
  obtain ⟨N, hN⟩ : ∃ N : Nat, (N : Int) = W * H := ⟨(W * H).toNat, by omega⟩
  obtain ⟨-, hcn1, -⟩ := hcn
  have HNN := hide hN
  have hN6 : N ≤ 1048576 := by omega
  clear hN mm
  go_enter Tryd.func42, Tryd.ntmps42
  go_wp2_with fail
  go_quiet (fail)
  clear o1 o2 c0 c1 c2 c3 y0 y1 y2 y3
  go_wp2_with (go_at_call 36; refine (may_any _ _ _).mono ?_; rintro e w1 ⟨rfl, hd⟩; rw [hm]; have hg1 := Dr.gr hd; clear hd)
  all_goals
    have hG : Gr w w1 := (((Gr.refl w).alloc _).drewN nq).trans hg1
    have hR := row_gr R1.out (((Gr.refl _).drewN nq).trans hg1)
    refine (HRD.out _ _ _ hG (by omega) (by unfold maxLen; omega) (fun hk => by first | rfl | omega)).mono ?_
    rintro e w2 ⟨⟨v, rfl, hv⟩, hg2⟩
    have HG3 := hide (hG.trans hg2)
    have HR2 := hide (row_gr hR hg2)
    obtain ⟨e1, e2, e3, j1, j2, j3⟩ := row_cells HR2.out
    have hz2 : w.heap.size < w2.heap.size := HR2.out.lt
    clear HRD hg1 hg2 hR hG
    rcases hv with ⟨hk, tv, ar, cr, g, c, rfl, htl⟩ | ⟨hk, fb, rb, rfl, hf1, hf2⟩
    · obtain ⟨ts, p, hrd⟩ : ∃ ts p, rdS W H B b (cntS W H) = (0, ts, p) := ⟨_, _, Prod.ext hk rfl⟩
      obtain ⟨k1, k2, k3, -⟩ := HOK.out ts p hrd
      rw [hrd] at htl
      simp only [hrd]
      obtain ⟨tb, tcap, rfl, tq1, tq2, tq3, hts⟩ := htl.tsl (by show 1 ≤ ts.length; omega)
      have hgm : getM B b = if p ≠ B then (3, []) else (0, ts) := by rw [HGM.out, hrd]; simp
      have HK1 := hide k1
      clear htl HGM HOK hk hrd k1
      by_cases hp : p = B
      · rw [if_neg (by omega)] at hgm
        have HL := hide (fun (u : World) (hu : Gr w2 u) => alay_any W H (some ⟨tb, 0, none⟩) ts.length tcap N (tiF W H ts g c) ts u (hts.gr hu) hm HK1.out HNN.out (fun s _ => ⟨rfl, rfl, rfl, fun _ _ => rfl⟩))
        have HGE := hide hgm
        have hBp : B - p = 0 := by omega
        rw [hBp]
        clear hts hgm hBp hp
        go_wp2_with (go_at_call 48; refine (HL.out _ (Gr.refl _)).mono ?_; rintro e w3 ⟨⟨g3, rfl, hrow, hgb⟩, hg3⟩; obtain ⟨e1, e2, e3, j1, j2, j3⟩ := row_cells (row_gr HR2.out hg3))
        have hgw := gr_set3 (x := .int .i64 W) (y := .int .i64 H) (z := .slice (some ⟨g3, 0, none⟩) N N) (HG3.out.trans hg3) (Nat.le_refl _)
        have hg3w : g3 ≠ w.heap.size := by omega
        have hrw := ((hrow.setO (p := ⟨w.heap.size, 0, none⟩) (v := .int .i64 W) hg3w).setO (p := ⟨w.heap.size, 1, none⟩) (v := .int .i64 H) hg3w).setO (p := ⟨w.heap.size, 2, none⟩) (v := .slice (some ⟨g3, 0, none⟩) N N) hg3w
        refine bodyPost_ret (v := .tuple #[.agg #[.int .i64 W, .int .i64 H, .slice (some ⟨g3, 0, none⟩) N N], .nilIface]) (by simp [results, Tryd.results42, go_sem, e1, e2, e3]) rfl ?_
        refine ⟨⟨_, rfl, .inl ?_⟩, hgw⟩
        rw [HGE.out, HWB.out, HHB.out]
        exact ⟨rfl, g3, N, rfl, HNN.out, hN6, hrw⟩
      · rw [if_pos hp] at hgm
        have HGE := hide hgm
        have hBp : ¬ B - p = 0 := by omega
        have hBp2 : (0 : Int) < ((B - p : Nat) : Int) := by omega
        generalize B - p = R at *
        clear hts hgm hp
        go_wp2_with fail
        obtain ⟨m0, m1, m2, -, -, -⟩ := row_cells ((row_set3 (u0 := .int .i64 0) (u1 := .int .i64 0) (u2 := .slice none 0 0) HR2.out).alloc (.cells #[.int .i64 3, .string { data := #[98, 121, 116, 101, 115, 32, 98, 101, 104, 105, 110, 100, 32, 116, 104, 101, 32, 108, 97, 115, 116, 32, 116, 105, 108, 101] }] 79))
        have hg3 := gr_set3 (x := .int .i64 0) (y := .int .i64 0) (z := .slice none 0 0) HG3.out (Nat.le_refl _)
        have hz3 : (((w2.setCell ⟨w.heap.size, 0, none⟩ (.int .i64 0)).setCell ⟨w.heap.size, 1, none⟩ (.int .i64 0)).setCell ⟨w.heap.size, 2, none⟩ (.slice none 0 0)).heap.size = w2.heap.size := by simp [go_sem]
        generalize (((w2.setCell ⟨w.heap.size, 0, none⟩ (.int .i64 0)).setCell ⟨w.heap.size, 1, none⟩ (.int .i64 0)).setCell ⟨w.heap.size, 2, none⟩ (.slice none 0 0)) = u3 at *
        refine bodyPost_ret (v := .tuple #[.agg #[.int .i64 0, .int .i64 0, .slice none 0 0], .iface 77 (.pointer (some ⟨w2.heap.size, 0, none⟩))]) (by simp [results, Tryd.results42, go_sem, m0, m1, m2]) rfl ?_
        refine ⟨⟨_, rfl, .inr ?_⟩, hg3.alloc _⟩
        rw [HGE.out]
        refine ⟨by decide, _, rfl, .inl ⟨_, rfl, ?_⟩⟩
        rw [← hz3]
        simp [go_sem]
    · have hgm : getM B b = ((rdS W H B b (cntS W H)).1, []) := by rw [HGM.out, if_pos hk]
      generalize (rdS W H B b (cntS W H)).1 = k at *
      have HGE := hide hgm
      have HF1 := hide hf1
      have HF2 := hide hf2
      have HK := hide hk
      clear hgm HGM HOK hf1 hf2 hk
      go_wp2_with fail
      have hg3 := gr_set3 (x := .int .i64 0) (y := .int .i64 0) (z := .slice none 0 0) HG3.out (Nat.le_refl _)
      refine bodyPost_ret (v := .tuple #[.agg #[.int .i64 0, .int .i64 0, .slice none 0 0], .iface 103 (.pointer (some ⟨fb, 0, none⟩))]) (by simp [results, Tryd.results42, go_sem, e1, e2, e3]) rfl ?_
      refine ⟨⟨_, rfl, .inr ?_⟩, hg3⟩
      rw [HGE.out]
      exact ⟨HK.out, _, rfl, .inr ⟨fb, rb, rfl, cell_far3 HF1.out (iface_apart HF1.out e2), cell_far3 HF2.out (code_apart0 HF2.out HK.out e1)⟩⟩

end Go.Proofs.YtakmiafloolpmaaDoor
