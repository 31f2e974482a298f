/- What a grid's Tile and Map answer; what is none does nothing. -/
import Derived.Test.YtgbadbkipaccgaaGreatBG
namespace Go.Proofs.YtgbadbkipaccgaaGreat
open Go.RowKit
set_option maxRecDepth 20000

set_option maxHeartbeats 1000000 in
theorem gmap_any {w : World} {p c v : Nat} {W H : Int} {N cc : Nat} {f : Nat → Int} {ep : Int} {ver : Nat → Int} (h : Gd w p c v W H N cc f ep ver) :
    Calls Tryz.prog 27 #[.pointer (some ⟨p, 0, none⟩)] w fun e w' => (∃ g c', e = .returned (.agg #[.int .i64 W, .int .i64 H, .slice (some ⟨g, 0, none⟩) N c']) ∧ OwnB w' w.heap.size g N c' f) ∧ Gr w w' := by
  obtain ⟨-, -, b1, b2, -, -, -⟩ := h.bd
  have hUw : Gr w (w.alloc (.cells #[.int .i64 0, .int .i64 0, .slice none 0 0] 24)) := (Gr.refl w).alloc _
  have hU : (w.alloc (.cells #[.int .i64 0, .int .i64 0, .slice none 0 0] 24)).heap.size = w.heap.size + 1 := World.size_alloc _ _
  have R1 := tri_alloc w (.int .i64 0) (.int .i64 0) (.slice none 0 0) 24
  obtain ⟨c0, c1, c2, c3, c4⟩ := (h.gr hUw).cells
  have HCP := hide (fun u (hu : Gr w u) => copied_any W H (some ⟨c, 0, none⟩) N cc f u ((h.cost.sl h.byte).gr hu) (by omega) (by omega))
  clear h
  go_enter Tryz.func27, Tryz.ntmps27
  go_wp2_with (go_at_call 56; refine (HCP.out _ (by repeat (first | exact Gr.refl _ | assumption | exact Dr.gr (by assumption) | refine Gr.alloc ?_ _ | refine Gr.drewN ?_ _ | refine Gr.drew ?_ | refine Gr.trans ?_ (by assumption) | refine Gr.trans ?_ (Dr.gr (by assumption))))).mono ?_; rintro e w9 ⟨⟨g, c', rfl, ho9⟩, hg9⟩; obtain ⟨x1, x2, x3, j1, j2, j3⟩ := row_cells (row_gr R1 hg9))
  exact bodyPost_ret (v := .agg #[.int .i64 W, .int .i64 H, .slice (some ⟨g, 0, none⟩) N c']) (by simp [results, Tryz.results27, go_sem, x1, x2, x3]) rfl ⟨⟨g, c', rfl, own_mono (own_set3 ho9.own (by omega)) (by omega), ho9.byte⟩, gr_set3 (hUw.trans hg9) (by omega)⟩

set_option maxHeartbeats 1000000 in
theorem gtile_no {w : World} {p c v : Nat} {W H : Int} {N cc : Nat} {f : Nat → Int} {ep : Int} {ver : Nat → Int} (h : Gd w p c v W H N cc f ep ver) (x : Int) (hx : x < 0 ∨ cntS W H ≤ x) :
    Calls Tryz.prog 65 #[.pointer (some ⟨p, 0, none⟩), .int .i64 x] w fun e w' => e = .returned (.tuple #[.agg #[.int .i64 0, .int .i64 0, .slice none 0 0], .bool false]) ∧ Gr w w' := by
  have hUw : Gr w (w.alloc (.cells #[.int .i64 0, .int .i64 0, .slice none 0 0] 83)) := (Gr.refl w).alloc _
  have R1 := tri_alloc w (.int .i64 0) (.int .i64 0) (.slice none 0 0) 83
  have HG := hide (h.gr hUw)
  have hd : decide (0 ≤ x ∧ x < cntS W H) = false := by simp; omega
  clear h hx
  go_enter Tryz.func65, Tryz.ntmps65
  go_wp2_with (go_at_call 68; refine (gisSector_any HG.out _).mono ?_; rintro e w1 ⟨rfl, hg1⟩; rw [hd]; obtain ⟨x1, x2, x3, j1, j2, j3⟩ := row_cells (row_gr R1 hg1))
  exact bodyPost_ret (v := .tuple #[.agg #[.int .i64 0, .int .i64 0, .slice none 0 0], .bool false]) (by simp [results, Tryz.results65, go_sem, x1, x2, x3]) rfl ⟨rfl, gr_set3 (hUw.trans hg1) (Nat.le_refl _)⟩

theorem slice_form (c q m cc : Nat) : Value.slice (some ⟨c, q, none⟩) (q + m - q) (cc - q) = Value.slice (some ⟨c, 0 + q, none⟩) m (cc - q) := by rw [Nat.add_sub_cancel_left, Nat.zero_add]

set_option maxHeartbeats 4000000 in
theorem gtile_yes {w : World} {p c v : Nat} {W H : Int} {N cc : Nat} {f : Nat → Int} {ep : Int} {ver : Nat → Int} (h : Gd w p c v W H N cc f ep ver) (s : Nat) (hs : s < cntS W H) :
    Calls Tryz.prog 65 #[.pointer (some ⟨p, 0, none⟩), .int .i64 s] w fun e w' => (∃ g c', e = .returned (.tuple #[.agg #[.int .i64 (twF W s), .int .i64 (thF W H s), .slice (some ⟨g, 0, none⟩) (tnF W H s) c'], .bool true]) ∧ OwnB w' w.heap.size g (tnF W H s) c' (tileF W s f)) ∧ Gr w w' := by
  obtain ⟨i0, hi, hz0, hz1, hz2⟩ := info_parts info_u8
  obtain ⟨hmb, hN, hf0⟩ := (mayM_iff _ _ _ _).1 h.may
  have mm := may_mul hmb
  have hn6 : N ≤ 1048576 := by omega
  have hs1 := sec_of hs
  have sb := size_bd hs1
  have ht := tnF_eq hs1
  have hsl := h.cost.sl h.byte
  have hcap := h.cap
  obtain ⟨TW, hTW⟩ : ∃ TW : Nat, twF W s = TW := ⟨(twF W s).toNat, by omega⟩
  obtain ⟨TH, hTH⟩ : ∃ TH : Nat, thF W H s = TH := ⟨(thF W H s).toNat, by omega⟩
  have hgy := fun (l : Int) (u : World) (h0 : 0 ≤ l) (h1 : l < twF W s * thF W H s) => global_yes W H s l u hs1 h0 h1
  have hsz := fun (u : World) => size_yes W H s u hs1
  rw [hTW, hTH] at sb ht
  simp only [hTW, hTH] at hgy hsz ⊢
  obtain ⟨TN, hTN⟩ : ∃ TN : Nat, tnF W H s = TN := ⟨_, rfl⟩
  have hbT : Hid (∀ i, i < TN → 0 ≤ tileF W s f i ∧ tileF W s f i ≤ 255) := hide (fun i hi => h.byte _ (gcF_lt hs1 (by omega) hN))
  rw [hTN] at ht ⊢
  have hmul : (TW : Int) * (TH : Int) = (TN : Int) := ht.1.symm
  have hmk := make_room TN (by omega)
  have HM := hide (fun r hr j hj => gc_row (W := W) (H := H) (s := s) (r := r) (j := j) hs1 hTW hTH hr hj)
  have HGL := hide hgy
  have HS := hide hsz
  have HC := hide (fun r hr => (gcF_eq hs1 (l := r) hr).1)
  have HL := hide (fun r hr => gcF_lt hs1 (l := r) hr hN)
  have HE := hide hsl
  rw [hTN] at HM HC HL
  have hd : decide (0 ≤ (s : Int) ∧ (s : Int) < cntS W H) = true := by simp; omega
  have hUw : Gr w (w.alloc (.cells #[.int .i64 0, .int .i64 0, .slice none 0 0] 83)) := (Gr.refl w).alloc _
  have hU : (w.alloc (.cells #[.int .i64 0, .int .i64 0, .slice none 0 0] 83)).heap.size = w.heap.size + 1 := World.size_alloc _ _
  have R1 := tri_alloc w (.int .i64 0) (.int .i64 0) (.slice none 0 0) 83
  have HG := hide (h.gr hUw)
  clear hgy hsz hsl hmb hN hf0 hs1 hTW hTH h
  obtain ⟨ht0, ht1, ht2⟩ := ht
  clear ht0
  go_enter Tryz.func65, Tryz.ntmps65
  go_wp2_with (go_at_call 68; refine (gisSector_any HG.out _).mono ?_; rintro e w1 ⟨rfl, hg1⟩; rw [hd]; obtain ⟨c0, c1, c2, -, -⟩ := (HG.out.gr hg1).cells)
  generalize (w.alloc (.cells #[.int .i64 0, .int .i64 0, .slice none 0 0] 83)) = U at *
  go_region_held3 (fun z => z.cell? ⟨p, 0, none⟩ = some (.int .i64 W) ∧ z.cell? ⟨p, 1, none⟩ = some (.int .i64 H) ∧ Gr w1 z) (first | exact ⟨c0, c1, (Gr.refl w1).drew⟩ | exact ⟨cell_gr c0 hg2, cell_gr c1 hg2, hg2⟩) ((go_at_call 81; refine (HS.out _).mono ?_; rintro e w2 ⟨rfl, hd2⟩; have hg2 := (Gr.refl w1).drew.trans (Dr.gr hd2); clear hd2))
  go_wp2_with fail
  have hgU := hg1.trans hg2
  have hUw1 := hgU.size
  clear hg1 hg2 c0 c1 c2
  go_loopw [8, 40] (fun x i u => ∃ (r g k : Nat), r ≤ TH ∧ i = .int .i64 r ∧ x = .slice (some ⟨g, 0, none⟩) (r * TW) k ∧ u.ownsRow (w.heap.size + 1) 5 1 (.slice (some ⟨g, 0, none⟩) (r * TW) k) (r * TW) (cel .u8 (r * TW) (tileF W s f)) ∧ w.heap.size + 1 ≤ g ∧ Gr U u) (fun _ i _ => TH - (intOf i).toNat)
  case atStart =>
    refine ⟨0, w2.heap.size, TN, Nat.zero_le _, rfl, by rw [Nat.zero_mul], ?_, by omega, hgU.alloc _⟩
    rw [Nat.zero_mul]
    exact World.ownsRow_made w2 _ TN (by omega) (by unfold maxLen; omega) (by rw [size_madeCells, Nat.mul_one])
  case round =>
    obtain ⟨r, g, m, hr, rfl, rfl, hown, hgb, hgr⟩ := hrel
    obtain ⟨k, hk⟩ : ∃ k, r * TW = k := ⟨_, rfl⟩
    have hkI : (r : Int) * (TW : Int) = (k : Int) := by rw [← Int.natCast_mul, hk]
    by_cases hlt : r < TH
    · have q1 := HM.out r hlt (TW - 1) (by omega)
      have q2 := HM.out r hlt 0 (by omega)
      have hrow := fun j hj => (HM.out r hlt j hj).1
      rw [hk] at q1 q2 hrow hown
      obtain ⟨q, hq⟩ : ∃ q, gcF W s k = q := ⟨_, rfl⟩
      have hgq := HC.out k (by omega)
      have hqn := HL.out (k + (TW - 1)) (by omega)
      rw [q1.1] at hqn
      rw [hq] at hgq hqn hrow
      have hk1 : Hid ((r + 1) * TW = k + TW) := hide (by rw [Nat.add_mul, hk, Nat.one_mul])
      have HR := hide hrow
      have HO := hide hown
      have hkl : (k : Int) < TW * TH := by rw [hmul]; omega
      have hqc : q < cc := by omega
      have hk2 : k + TW ≤ TN := by omega
      have HGQ := hide hgq.symm
      have hw1 : IntKind.i64.wrap (k : Int) = k := wrapI (by omega)
      obtain ⟨d0, d1, d2, -, -⟩ := (HG.out.gr hgr).cells
      clear q1 q2 hrow hown hgq
      rw [hk]
      go_wp2_with fail
      go_region_held3 (fun z => z.cell? ⟨p, 0, none⟩ = some (.int .i64 W) ∧ z.cell? ⟨p, 1, none⟩ = some (.int .i64 H) ∧ Gr wr z) (first | exact ⟨d0, d1, (Gr.refl wr).drew⟩ | exact ⟨cell_gr d0 hg3, cell_gr d1 hg3, hg3⟩) ((go_at_call 82; refine (HGL.out _ _ (by omega) (by omega)).mono ?_; rintro e w3 ⟨rfl, hd3⟩; have hg3 := (Gr.refl wr).drew.trans (Dr.gr hd3); clear hd3; rw [HGQ.out]))
      replace d2 := cell_gr d2 hg3
      go_wp2_with (at_builtin; go_loud (refine wpList_append_own _ rfl _ _ 22 rfl (w.heap.size + 1) 5 i0 (.int .u8 0) 1 1 Tryz.underlying22 hi hz0 hz1 hz2 rfl (by decide) (.slice (some ⟨g, 0, none⟩) k m) k (cel .u8 k (tileF W s f)) rfl (own_gr HO.out hg3) ⟨c, 0 + q, none⟩ TW (cc - q) (cel .u8 TW (fun i => f (q + i))) (slice_form c q TW cc) (by simp [cel_len]) (cel_from (w := w) HE.out (by omega) (hUw.trans (hgr.trans hg3))) (cel_one _ _ _) (by unfold maxLen; omega) (by omega) (by have := hgr.size; have := hg3.size; omega) ?_; intro v' w4 hown3 hgrow3 hnil3); obtain ⟨g3, c3, rfl, ho3, hgb3, hgr3⟩ := cut_next (U := U) hown3 (by omega) (fun j hj => (by unfold tileF; rw [HR.out j hj])) hgrow3 (hgr.trans hg3) (by omega); clear hown3 hnil3 hgrow3)
      go_roundw
      case rel => exact ⟨r + 1, g3, c3, by omega, by go_num, by rw [hk1.out], by rw [hk1.out]; exact ho3, hgb3, hgr3⟩
      case measure => simp [intOf]; omega
    · have hrT : r = TH := by omega
      subst hrT
      have hkT : k = TN := by
        have : ((r * TW : Nat) : Int) = (TN : Int) := by rw [← hmul]; push_cast; exact Int.mul_comm _ _
        omega
      rw [hk, hkT] at hown ⊢
      have HO := hide hown
      obtain ⟨e1, e2, e3, j1, j2, j3⟩ := row_cells (row_gr R1 hgr)
      clear hown
      go_wp2
      exact bodyPost_ret (v := .tuple #[.agg #[.int .i64 TW, .int .i64 r, .slice (some ⟨g, 0, none⟩) TN m], .bool true]) (by simp [results, Tryz.results65, go_sem, e1, e2, e3]) rfl ⟨⟨g, m, rfl, own_mono (own_set3 HO.out (by omega)) (by omega), hbT.out⟩, gr_set3 (hUw.trans hgr) (by omega)⟩

end Go.Proofs.YtgbadbkipaccgaaGreat
