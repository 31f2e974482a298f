/- What pack's readCosts, readTile and Get answer. -/
import Derived.Test.YtakmiafloolpmaaDoorDRuns
namespace Go.Proofs.YtakmiafloolpmaaDoor
open Go.RowKit
set_option maxRecDepth 20000

theorem tri_cells (w1 : World) (W H : Int) (v : Value) (t : TypeId) : (w1.alloc (.cells #[.int .i64 W, .int .i64 H, v] t)).cell? ⟨w1.heap.size, 0, none⟩ = some (.int .i64 W) ∧ (w1.alloc (.cells #[.int .i64 W, .int .i64 H, v] t)).cell? ⟨w1.heap.size, 1, none⟩ = some (.int .i64 H) ∧ (w1.alloc (.cells #[.int .i64 W, .int .i64 H, v] t)).cell? ⟨w1.heap.size, 2, none⟩ = some v := by
  refine ⟨?_, ?_, ?_⟩ <;> simp [go_sem]
theorem Sl.setF {w : World} {g n : Nat} {f : Nat → Int} {p : Addr} {v : Value} (h : Sl w (some ⟨g, 0, none⟩) n f) (hp : g ≠ p.block) : Sl (w.setCell p v) (some ⟨g, 0, none⟩) n f := by
  refine ⟨h.byte, ?_⟩
  rcases h.has with h0 | ⟨b, o, e, hb, hc⟩
  · exact .inl h0
  · cases e
    refine .inr ⟨_, _, rfl, by simpa [World.setCell] using hb, fun i hi => ?_⟩
    rw [World.cell?_of_block (w := w) (Below.heap_setCell w p v g hp)]
    exact hc i hi
theorem sl_apart {w : World} {g n q : Nat} {f : Nat → Int} {x : Int} (h : Sl w (some ⟨g, 0, none⟩) n f) (hn : 1 ≤ n) (hq : w.cell? ⟨q, 0, none⟩ = some (.int .i64 x)) : g ≠ q := by
  rintro rfl
  obtain ⟨b, o, e, _, hc⟩ := h.at (by omega)
  cases e
  have := hc 0 (by omega)
  rw [Nat.zero_add, hq] at this
  simp at this
theorem code_apart {w : World} {k q : Nat} {c : Int} (hk : w.cell? ⟨k, 1, none⟩ = some (.int .i64 c)) (hc : c ≠ 0) (hq : w.cell? ⟨q, 1, none⟩ = some (.int .i64 0)) : k ≠ q := by
  rintro rfl
  rw [hk] at hq
  simp at hq
  exact hc hq
theorem cell_far3 {w : World} {k o q : Nat} {v x y z : Value} (h : w.cell? ⟨k, o, none⟩ = some v) (hq : k ≠ q) : (((w.setCell ⟨q, 0, none⟩ x).setCell ⟨q, 1, none⟩ y).setCell ⟨q, 2, none⟩ z).cell? ⟨k, o, none⟩ = some v := by
  rw [World.cell?_setCell_far _ _ _ _ (by exact fun e => hq e.symm), World.cell?_setCell_far _ _ _ _ (by exact fun e => hq e.symm), World.cell?_setCell_far _ _ _ _ (by exact fun e => hq e.symm)]
  exact h
theorem gr_set3 {a w : World} {q : Nat} {x y z : Value} (h : Gr a w) (hq : a.heap.size ≤ q) : Gr a (((w.setCell ⟨q, 0, none⟩ x).setCell ⟨q, 1, none⟩ y).setCell ⟨q, 2, none⟩ z) :=
  ((h.set (p := ⟨q, 0, none⟩) hq _).set (p := ⟨q, 1, none⟩) hq _).set (p := ⟨q, 2, none⟩) hq _
theorem Reads.shape {w : World} {r : Int × List Int × Nat} {v : Value} (h : Reads w r v) : ∃ x y z, v = .tuple #[x, y, z] := by
  rcases h with ⟨_, g, c, rfl, _⟩ | ⟨_, k, rfl, _⟩
  · exact ⟨_, _, _, rfl⟩
  · exact ⟨_, _, _, rfl⟩

theorem Reads.ok {w : World} {L : List Int} {u : Nat} {v : Value} (h : Reads w (0, L, u) v) : ∃ g c, v = .tuple #[.slice (some ⟨g, 0, none⟩) L.length c, .int .i64 u, .nilIface] ∧ L.length ≤ c ∧ c ≤ maxLen ∧ Sl w (some ⟨g, 0, none⟩) L.length (at0 L) := by
  rcases h with ⟨_, h⟩ | ⟨h, _⟩
  · exact h
  · exact absurd rfl h
theorem Reads.no {w : World} {k : Int} {v : Value} (hk : k ≠ 0) (h : Reads w (k, [], 0) v) : ∃ j, v = .tuple #[.slice none 0 0, .int .i64 0, .iface 122 (.pointer (some ⟨j, 0, none⟩))] ∧ w.cell? ⟨j, 1, none⟩ = some (.int .i64 k) := by
  rcases h with ⟨h, _⟩ | ⟨_, h⟩
  · exact absurd h hk
  · exact h

set_option maxHeartbeats 1000000 in
theorem readCosts_any (a : Option Addr) (B cap n : Nat) (b : Nat → Int) (ga : Nat → Addr) (w : World) (h : Sl w a B b) (hw : Glob w ga) (hc : B ≤ cap) (hcm : cap ≤ maxLen) (hB7 : B ≤ 1000000) (n1 : 1 ≤ n) (n2 : n ≤ 256) :
    Calls Tryd.prog 78 #[.slice a B cap, .int .i64 n] w fun e w' => (∃ v, e = .returned v ∧ Reads w' (readL n B b) v) ∧ Gr w w' := by
  have e0 := hw.val 0 (by omega)
  have e1 := hw.val 1 (by omega)
  have s0 : sentG 0 = 3 := rfl
  have s1 : sentG 1 = 4 := rfl
  rw [s0] at e0
  rw [s1] at e1
  clear s0 s1
  by_cases hB : B = 0
  · have R : readL n B b = (2, [], 0) := by unfold readL; rw [if_pos hB]
    rw [R]
    clear R
    subst hB
    go_enter Tryd.func78, Tryd.ntmps78
    go_wp2_with (go_at_call 79; refine (faultAt_any 0 _ ga _ hw (by omega)).mono ?_; rintro e w1 ⟨⟨k, rfl, hk, -⟩, hg⟩)
    go_ret3
    exact ⟨⟨_, rfl, reads_no (by simp) hk⟩, (by repeat (first | exact Gr.refl _ | assumption | exact Dr.gr (by assumption) | refine Gr.alloc ?_ _ | refine Gr.drewN ?_ _ | refine Gr.drew ?_ | refine Gr.trans ?_ (by assumption) | refine Gr.trans ?_ (Dr.gr (by assumption))))⟩
  have hB0 : 0 < B := by omega
  have hBi : ((B : Int) == 0) = false := by simp; omega
  obtain ⟨bb, oo, rfl, hbb, hcell⟩ := h.at hB0
  have c0 := hcell 0 hB0
  rw [Nat.add_zero] at c0
  have q0 := h.byte 0 hB0
  clear hcell
  by_cases h0 : b 0 = 0
  · have q := readAlike_any (some ⟨bb, oo, none⟩) B cap n b ga w h hw hc hcm n1 n2 hB0 h0
    have h0' : (b 0 == 0) = true := by simp [h0]
    generalize readL n B b = r at *
    have HQ := hide q
    clear q h0
    go_enter Tryd.func78, Tryd.ntmps78
    go_wp2_with (go_at_call 80; refine HQ.out.mono ?_; rintro e w1 ⟨⟨v, rfl, hv⟩, hg⟩; obtain ⟨x, y, z, rfl⟩ := hv.shape)
    go_ret3
    exact ⟨⟨_, rfl, hv⟩, hg⟩
  by_cases h1 : b 0 = 1
  · have q := readPlain_any (some ⟨bb, oo, none⟩) B cap n b ga w h hw hc n1 n2 hB0 h1
    have h0' : (b 0 == 0) = false := by simp [h0]
    have h1' : (b 0 == 1) = true := by simp [h1]
    generalize readL n B b = r at *
    have HQ := hide q
    clear q h0 h1
    go_enter Tryd.func78, Tryd.ntmps78
    go_wp2_with (go_at_call 81; refine HQ.out.mono ?_; rintro e w1 ⟨⟨v, rfl, hv⟩, hg⟩; obtain ⟨x, y, z, rfl⟩ := hv.shape)
    go_ret3
    exact ⟨⟨_, rfl, hv⟩, hg⟩
  by_cases h2 : b 0 = 2
  · have q := readRuns_any (some ⟨bb, oo, none⟩) B cap n b ga w h hw hc hB7 n1 n2 hB0
    have R : decR n B b 1 [] = readL n B b := by unfold readL; rw [if_neg hB, if_neg h0, if_neg h1, if_pos h2]
    rw [R] at q
    have h0' : (b 0 == 0) = false := by simp [h0]
    have h1' : (b 0 == 1) = false := by simp [h1]
    have h2' : (b 0 == 2) = true := by simp [h2]
    clear R
    generalize readL n B b = r at *
    have HQ := hide q
    clear q h0 h1 h2
    go_enter Tryd.func78, Tryd.ntmps78
    go_wp2_with (go_at_call 82; refine HQ.out.mono ?_; rintro e w1 ⟨⟨v, rfl, hv⟩, hg⟩; obtain ⟨x, y, z, rfl⟩ := hv.shape)
    go_ret3
    exact ⟨⟨_, rfl, hv⟩, hg⟩
  · have R : readL n B b = (3, [], 0) := by unfold readL; rw [if_neg hB, if_neg h0, if_neg h1, if_neg h2]
    rw [R]
    have h0' : (b 0 == 0) = false := by simp [h0]
    have h1' : (b 0 == 1) = false := by simp [h1]
    have h2' : (b 0 == 2) = false := by simp [h2]
    clear R h0 h1 h2
    go_enter Tryd.func78, Tryd.ntmps78
    go_wp2_with (go_at_call 79; refine (faultAt_any 1 _ ga _ hw (by omega)).mono ?_; rintro e w1 ⟨⟨k, rfl, hk, -⟩, hg⟩)
    go_ret3
    exact ⟨⟨_, rfl, reads_no (by simp) hk⟩, (by repeat (first | exact Gr.refl _ | assumption | exact Dr.gr (by assumption) | refine Gr.alloc ?_ _ | refine Gr.drewN ?_ _ | refine Gr.drew ?_ | refine Gr.trans ?_ (by assumption) | refine Gr.trans ?_ (Dr.gr (by assumption))))⟩

/-- what reading a tile answers -/
def ReadsT (w : World) (W H : Int) (r : Int × List Int × Nat) (v : Value) : Prop :=
  (r.1 = 0 ∧ ∃ g c, v = .tuple #[.agg #[.int .i64 W, .int .i64 H, .slice (some ⟨g, 0, none⟩) r.2.1.length c], .int .i64 r.2.2, .nilIface] ∧ r.2.1.length ≤ c ∧ c ≤ maxLen ∧ Sl w (some ⟨g, 0, none⟩) r.2.1.length (at0 r.2.1)) ∨
  (r.1 ≠ 0 ∧ ∃ k, v = .tuple #[.agg #[.int .i64 0, .int .i64 0, .slice none 0 0], .int .i64 0, .iface 122 (.pointer (some ⟨k, 0, none⟩))] ∧ w.cell? ⟨k, 1, none⟩ = some (.int .i64 r.1))

set_option maxHeartbeats 4000000 in
theorem readTile_any (a : Option Addr) (B cap : Nat) (W H : Int) (n : Nat) (b : Nat → Int) (ga : Nat → Addr) (w : World) (h : Sl w a B b) (hw : Glob w ga) (hc : B ≤ cap) (hcm : cap ≤ maxLen) (hB7 : B ≤ 1000000) (hW : 1 ≤ W ∧ W ≤ 16) (hH : 1 ≤ H ∧ H ≤ 16) (hn : (n : Int) = W * H) :
    Calls Tryd.prog 73 #[.slice a B cap, .int .i64 W, .int .i64 H] w fun e w' => (∃ v, e = .returned v ∧ ReadsT w' W H (getL n B b) v) ∧ Gr w w' := by
  have mb := mul_bd (w := W) (h := H) (W := 16) (H := 16) (by omega) (by omega) (by omega) (by omega)
  have mc := Int.mul_le_mul hW.1 hH.1 (by omega) (by omega : (0 : Int) ≤ W)
  have n1 : 1 ≤ n := by omega
  have n2 : n ≤ 256 := by omega
  have hnw : W * H = (n : Int) := hn.symm
  have hbyte := h.byte
  have q := readCosts_any a B cap n b ga (w.alloc (.cells #[.int .i64 0, .int .i64 0, .slice none 0 0] 31)) (h.gr ((Gr.refl w).alloc _)) (hw.gr ((Gr.refl w).alloc _)) hc hcm hB7 n1 n2
  have e5 := hw.val 5 (by omega)
  have s5 : sentG 5 = 2 := rfl
  rw [s5] at e5
  clear s5
  have HW := hide hw
  rcases readL_kind n B b with hr | hr
  · obtain ⟨L, u, hR⟩ : ∃ L u, readL n B b = (0, L, u) := ⟨_, _, Prod.ext hr rfl⟩
    obtain ⟨r1, r2, r3, r4, r5, -⟩ := readL_ok hbyte n1 hR
    have hmay : mayTB W H n (at0 L) = true := (mayTB_iff _ _ _ _).2 ⟨hW, hH, hn, fun i hi => by
      unfold at0
      rw [List.getD_eq_getElem?_getD, List.getElem?_eq_getElem (by omega)]
      have := r2 (L[i]'(by omega)) (List.getElem_mem _)
      simp only [Option.getD_some]
      omega⟩
    rw [hR] at q
    obtain ⟨bb, oo, rfl, hbb, hcell⟩ := h.at r5
    have c0 := hcell 0 r5
    rw [Nat.add_zero] at c0
    have q0 := hbyte 0 r5
    have HQ := hide q
    have HM := hide hmay
    have fb := formF_cases n (at0 L)
    have G1 : formF n (at0 L) = b 0 → getL n B b = (0, L, u) := fun e => by unfold getL; rw [hR, if_neg (by simp), if_neg (fun k => k e)]
    have G2 : formF n (at0 L) ≠ b 0 → getL n B b = (3, [], 0) := fun e => by unfold getL; rw [hR, if_neg (by simp), if_pos e]
    have HG1 := hide G1
    have HG2 := hide G2
    clear hcell q hmay hR hr r2 r3 r4 G1 G2 hw h hn
    subst r1
    have bw : IntKind.i64.wrap (b 0) = b 0 := wrapI (by omega)
    have fq := fun u a c (hs : Sl u a L.length (at0 L)) (h1 : L.length ≤ c) (h2 : c ≤ maxLen) => form_yes W H a L.length c (at0 L) u hs h1 h2 HM.out
    generalize formF L.length (at0 L) = fm at *
    have HFQ := hide fq
    clear fq
    go_enter Tryd.func73, Tryd.ntmps73
    go_wp2_with (go_at_call 78; refine HQ.out.mono ?_; rintro e w1 ⟨⟨v, rfl, hv⟩, hg⟩; obtain ⟨g, c, rfl, v1, v2, v3⟩ := hv.ok)
    obtain ⟨d1, d2, d3⟩ := tri_cells w1 W H (.slice (some ⟨g, 0, none⟩) L.length c) 31
    have t0 := tri_alloc w (.int .i64 0) (.int .i64 0) (.slice none 0 0) 31
    have hg2 := hg.alloc (.cells #[.int .i64 W, .int .i64 H, .slice (some ⟨g, 0, none⟩) L.length c] 31)
    have t1 := row_gr t0 hg2
    have hgr : Gr w (w1.alloc (.cells #[.int .i64 W, .int .i64 H, .slice (some ⟨g, 0, none⟩) L.length c] 31)) := ((Gr.refl w).alloc _).trans hg2
    replace c0 := cell_gr c0 hgr
    replace e5 := cell_gr e5 hgr
    replace v3 := v3.gr ((Gr.refl w1).alloc (.cells #[.int .i64 W, .int .i64 H, .slice (some ⟨g, 0, none⟩) L.length c] 31))
    have hz : w.heap.size < w1.heap.size := by have := hg.size; simp only [World.size_alloc] at this; omega
    clear hg hg2 t0 hv
    generalize (w1.alloc (.cells #[.int .i64 W, .int .i64 H, .slice (some ⟨g, 0, none⟩) L.length c] 31)) = u1 at *
    generalize w1.heap.size = B2 at *
    go_wp2_with fail
    go_region_held3 (fun u => u.cell? ⟨B2, 0, none⟩ = some (.int .i64 W) ∧ u.cell? ⟨B2, 1, none⟩ = some (.int .i64 H) ∧ u.cell? ⟨B2, 2, none⟩ = some (.slice (some ⟨g, 0, none⟩) L.length c) ∧ u.cell? ⟨bb, oo, none⟩ = some (.int .u8 (b 0)) ∧ Gr u1 u) (first | exact ⟨d1, d2, d3, c0, (Gr.refl _).drew⟩ | exact ⟨cell_gr hS.1 hg9, cell_gr hS.2.1 hg9, cell_gr hS.2.2.1 hg9, cell_gr hS.2.2.2.1 hg9, hS.2.2.2.2.trans hg9⟩) ((go_at_call 50; have hS := ‹_ ∧ _ ∧ _ ∧ _ ∧ Gr _ _›; refine (HFQ.out _ _ _ (v3.gr hS.2.2.2.2) v1 v2).mono ?_; rintro e w9 ⟨rfl, hg9⟩))
    obtain ⟨d1, d2, d3, -, hge⟩ := ‹_ ∧ _ ∧ _ ∧ _ ∧ Gr _ w9›
    replace t1 := row_gr t1 hge
    replace e5 := cell_gr e5 hge
    replace v3 := v3.gr hge
    have hgw := hgr.trans hge
    have r0 := t1.cell (i := 0) (by omega)
    have r1 := t1.cell (i := 1) (by omega)
    have r2 := t1.cell (i := 2) (by omega)
    have j0 := t1.frozen 0
    have j1 := t1.frozen 1
    have j2 := t1.frozen 2
    rw [tri_0] at r0
    rw [tri_1] at r1
    rw [tri_2] at r2
    have hap := sl_apart v3 n1 r0
    have HV3 := hide v3
    have HT := hide t1
    clear t1 v3 hge hgr c0
    clear hS
    by_cases hfm : fm = b 0
    · have HGE := hide (HG1.out hfm)
      have hfm' : (fm != b 0) = false := by simp [hfm]
      clear hfm
      go_wp2
      exact bodyPost_ret (v := .tuple #[.agg #[.int .i64 W, .int .i64 H, .slice (some ⟨g, 0, none⟩) L.length c], .int .i64 u, .nilIface]) (by simp [results, Tryd.results73, go_sem, r0, r1, r2]) rfl ⟨⟨_, rfl, by
        rw [HGE.out]
        exact .inl ⟨rfl, g, c, rfl, v1, v2, ((HV3.out.setF (p := ⟨w.heap.size, 0, none⟩) hap).setF (p := ⟨w.heap.size, 1, none⟩) hap).setF (p := ⟨w.heap.size, 2, none⟩) hap⟩⟩, ((hgw.set (p := ⟨w.heap.size, 0, none⟩) (Nat.le_refl _) _).set (p := ⟨w.heap.size, 1, none⟩) (Nat.le_refl _) _).set (p := ⟨w.heap.size, 2, none⟩) (Nat.le_refl _) _⟩
    · have HGE := hide (HG2.out hfm)
      have hfm' : (fm != b 0) = true := by simp [hfm]
      clear hfm
      go_wp2_with (go_at_call 79; refine (faultAt_any 5 _ ga _ (HW.out.gr hgw) (by omega)).mono ?_; rintro e w3 ⟨⟨k, rfl, hk, -⟩, hg3⟩; replace r0 := cell_gr r0 hg3; replace r1 := cell_gr r1 hg3; replace r2 := cell_gr r2 hg3; replace j0 := (row_gr HT.out hg3).frozen 0; replace j1 := (row_gr HT.out hg3).frozen 1; replace j2 := (row_gr HT.out hg3).frozen 2)
      have hka := code_apart hk (by decide) r1
      exact bodyPost_ret (v := .tuple #[.agg #[.int .i64 0, .int .i64 0, .slice none 0 0], .int .i64 0, .iface 122 (.pointer (some ⟨k, 0, none⟩))]) (by simp [results, Tryd.results73, go_sem, r0, r1, r2]) rfl ⟨⟨_, rfl, by
        rw [HGE.out]
        exact .inr ⟨by simp, k, rfl, cell_far3 hk hka⟩⟩, gr_set3 (hgw.trans hg3) (Nat.le_refl _)⟩
  · obtain ⟨k, hk0, hR⟩ : ∃ k : Int, k ≠ 0 ∧ readL n B b = (k, [], 0) := by
      rcases hr with hr | hr
      · exact ⟨2, by decide, hr⟩
      · exact ⟨3, by decide, hr⟩
    have HGE : Hid (getL n B b = (k, [], 0)) := hide (by unfold getL; rw [hR, if_pos hk0])
    rw [hR] at q
    have HQ := hide q
    have HK0 := hide hk0
    have t0 := tri_alloc w (.int .i64 0) (.int .i64 0) (.slice none 0 0) 31
    have HT := hide t0
    clear q hR hr hn e5 hk0 t0
    go_enter Tryd.func73, Tryd.ntmps73
    go_wp2_with (go_at_call 78; refine HQ.out.mono ?_; rintro e w1 ⟨⟨v, rfl, hv⟩, hg⟩; obtain ⟨j, rfl, hj⟩ := hv.no HK0.out; have t1 := row_gr HT.out hg; have r0 := t1.cell (i := 0) (by omega); have r1 := t1.cell (i := 1) (by omega); have r2 := t1.cell (i := 2) (by omega); have j0 := t1.frozen 0; have j1 := t1.frozen 1; have j2 := t1.frozen 2; rw [tri_0] at r0; rw [tri_1] at r1; rw [tri_2] at r2; clear t1)
    have hka := code_apart hj HK0.out r1
    exact bodyPost_ret (v := .tuple #[.agg #[.int .i64 0, .int .i64 0, .slice none 0 0], .int .i64 0, .iface 122 (.pointer (some ⟨j, 0, none⟩))]) (by simp [results, Tryd.results73, go_sem, r0, r1, r2]) rfl ⟨⟨_, rfl, by
      rw [HGE.out]
      exact .inr ⟨HK0.out, j, rfl, cell_far3 hj hka⟩⟩, gr_set3 (((Gr.refl w).alloc _).trans hg) (Nat.le_refl _)⟩

end Go.Proofs.YtakmiafloolpmaaDoor
