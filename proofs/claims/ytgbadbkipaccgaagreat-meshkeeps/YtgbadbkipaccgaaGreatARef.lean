/- What the document's TileOf and PutMap answer, of maps in memory. -/
import Derived.Test.YtgbadbkipaccgaaGreatBG
namespace Go.Proofs.YtgbadbkipaccgaaGreat
open Go.RowKit
set_option maxRecDepth 20000

theorem alloc_one_at (w : World) (x : Int) {g : Nat} (hg : g = w.heap.size) : ∀ j v, [Value.int .u8 x][j]? = some v → (w.alloc (.cells #[.int .u8 x] 5)).cell? ((⟨g, 0, none⟩ : Addr).add j) = some v := by
  subst hg
  exact alloc_one w _ _
/-- what holds where TileOf's loop begins a round: the tile's box, the empty one, the map's box -/
structure To (w u : World) (W H : Int) (v : Value) (TW TH : Nat) (a0 : Option Addr) (k c0 : Nat) (F : Nat → Int) : Prop where
  own : u.ownsRow (w.heap.size + 3) 5 1 (.slice a0 k c0) k (cel .u8 k F)
  box : u.rowIs (w.heap.size + 1 + 1) 83 3 (tri (.int .i64 TW) (.int .i64 TH) (.slice a0 k c0))
  res : u.rowIs (w.heap.size + 1) 83 3 (tri (.int .i64 0) (.int .i64 0) (.slice none 0 0))
  map : u.rowIs w.heap.size 24 3 (tri (.int .i64 W) (.int .i64 H) v)
  gr : Gr w u
theorem To.of {w u u' : World} {W H : Int} {v : Value} {TW TH : Nat} {a0 : Option Addr} {k c0 : Nat} {F : Nat → Int} (h : To w u W H v TW TH a0 k c0 F) (g : Gr u u') : To w u' W H v TW TH a0 k c0 F :=
  ⟨own_gr h.own g, row_gr h.box g, row_gr h.res g, row_gr h.map g, h.gr.trans g⟩
theorem To.step {w u w1 : World} {W H : Int} {v v' : Value} {TW TH : Nat} {a0 : Option Addr} {k c0 : Nat} {F : Nat → Int} {p : Int} (h : To w u W H v TW TH a0 k c0 F) (ho : w1.ownsRow (w.heap.size + 3) 5 1 v' (k + 1) (cel .u8 k F ++ [.int .u8 p])) (hg : u.grownBy w1 (Value.slice a0 k c0).ownBlock) (hp : F k = p) {B2 : Nat} (hB2 : w.heap.size + 1 + 1 = B2) :
    ∃ a1 c1, v' = .slice a1 (k + 1) c1 ∧ w1.rowIs B2 83 3 (tri (.int .i64 TW) (.int .i64 TH) (.slice a0 k c0)) ∧ To w (w1.setCell ⟨B2, 2, none⟩ (.slice a1 (k + 1) c1)) W H v TW TH a1 (k + 1) c1 F := by
  subst hB2
  rw [← hp, ← cel_succ] at ho
  obtain ⟨a1, c1, rfl, _⟩ := own_form ho
  have hl := h.own.lt
  have r2 := row_grown h.box hg (fun q e => by have := (hl q e).1; omega)
  have r1 := row_grown h.res hg (fun q e => by have := (hl q e).1; omega)
  have r0 := row_grown h.map hg (fun q e => by have := (hl q e).1; omega)
  have g1 := Gr.grown h.gr hg (fun q e => by have := (hl q e).1; omega)
  exact ⟨a1, c1, rfl, r2, ownsRow_setCell_below ho (a := ⟨w.heap.size + 1 + 1, 2, none⟩) (by show _ + 1 + 1 < _ + 3; omega) _, World.rowIs.congr (r2.set 2 _) (tri_set _ _ _ _), r1.setOther (by show _ + 1 ≠ _ + 1 + 1; omega) _, r0.setOther (by show _ ≠ _ + 1 + 1; omega) _, g1.set (by show _ ≤ _ + 1 + 1; omega) _⟩

theorem To.first (w : World) (W H : Int) (v : Value) (TW TH m : Nat) (F : Nat → Int) : To w (((((w.alloc (.cells #[.int .i64 W, .int .i64 H, v] 24)).alloc (.cells #[.int .i64 0, .int .i64 0, .slice none 0 0] 83)).drewN m).alloc (.cells #[.int .i64 TW, .int .i64 TH, .slice none 0 0] 83))) W H v TW TH none 0 0 F := by
  obtain ⟨R1, R2, hU, hUw⟩ := two_boxes w W H v 24 83
  have hd := (Gr.refl ((w.alloc (.cells #[.int .i64 W, .int .i64 H, v] 24)).alloc (.cells #[.int .i64 0, .int .i64 0, .slice none 0 0] 83))).drewN m
  have hsz : (((w.alloc (.cells #[.int .i64 W, .int .i64 H, v] 24)).alloc (.cells #[.int .i64 0, .int .i64 0, .slice none 0 0] 83)).drewN m).heap.size = w.heap.size + 1 + 1 := by simp [go_sem]
  refine ⟨World.ownsRow_nil _ _ _ _, ?_, (row_gr R2 hd).alloc _, (row_gr R1 hd).alloc _, (hUw.trans hd).alloc _⟩
  rw [← hsz]
  exact tri_alloc _ _ _ _ _
theorem To.cells {w u : World} {W H : Int} {v : Value} {TW TH : Nat} {a0 : Option Addr} {k c0 : Nat} {F : Nat → Int} (h : To w u W H v TW TH a0 k c0 F) :
    (u.cell? ⟨w.heap.size + 1 + 1, 2, none⟩ = some (.slice a0 k c0) ∧ u.frozen? ⟨w.heap.size + 1 + 1, 2, none⟩ = false) ∧ (u.cell? ⟨w.heap.size, 0, none⟩ = some (.int .i64 W) ∧ u.cell? ⟨w.heap.size, 1, none⟩ = some (.int .i64 H) ∧ u.cell? ⟨w.heap.size, 2, none⟩ = some v) ∧ w.heap.size + 1 + 1 < u.heap.size :=
  ⟨⟨(row_cells h.box).2.2.1, (row_cells h.box).2.2.2.2.2⟩, ⟨(row_cells h.map).1, (row_cells h.map).2.1, (row_cells h.map).2.2.1⟩, h.box.lt⟩

theorem to_end {wr : World} {B N c0 : Nat} {a0 : Option Addr} {F : Nat → Int} (hown : wr.ownsRow (B + 3) 5 1 (.slice a0 N c0) N (cel .u8 N F)) (hN : 0 < N) (hF : ∀ i, i < N → 0 ≤ F i ∧ F i ≤ 255) (x y z : Value) :
    ∃ g, a0 = some ⟨g, 0, none⟩ ∧ OwnB (((wr.setCell ⟨B + 1, 0, none⟩ x).setCell ⟨B + 1, 1, none⟩ y).setCell ⟨B + 1, 2, none⟩ z) B g N c0 F := by
  obtain ⟨a, c, e, _, _, h⟩ := own_form hown
  simp only [Value.slice.injEq] at e
  obtain ⟨rfl, _, rfl⟩ := e
  rcases h with h | ⟨g, rfl, _⟩
  · omega
  exact ⟨g, rfl, own_mono (own_set3 hown (by omega)) (by omega), hF⟩

set_option maxHeartbeats 4000000 in
theorem rtileOf_any (W H : Int) (a : Option Addr) (n cap : Nat) (f : Nat → Int) (s : Nat) (w : World) (h : Sl w a n f) (hm : mayM W H n f = true) (hs : s < cntS W H) :
    Calls Tryz.prog 46 #[.agg #[.int .i64 W, .int .i64 H, .slice a n cap], .int .i64 s] w fun e w' => (∃ g c', e = .returned (.agg #[.int .i64 (twF W s), .int .i64 (thF W H s), .slice (some ⟨g, 0, none⟩) (tnF W H s) c']) ∧ OwnB w' w.heap.size g (tnF W H s) c' (tileF W s f)) ∧ Gr w w' := by
  obtain ⟨i0, hi, hz0, hz1, hz2⟩ := info_parts info_u8
  obtain ⟨hmb, hN, hf0⟩ := (mayM_iff _ _ _ _).1 hm
  have mm := may_mul hmb
  have hn6 : n ≤ 1048576 := by omega
  have hs1 := sec_of hs
  have sb := size_bd hs1
  have ht := tnF_eq hs1
  obtain ⟨b, o, rfl, hB, hcell⟩ := h.at (by omega)
  obtain ⟨TW, hTW⟩ : ∃ TW : Nat, twF W s = TW := ⟨(twF W s).toNat, by omega⟩
  obtain ⟨TH, hTH⟩ : ∃ TH : Nat, thF W H s = TH := ⟨(thF W H s).toNat, by omega⟩
  have hgy := fun (l : Int) (u : World) (h0 : 0 ≤ l) (h1 : l < twF W s * thF W H s) => rglobal_yes W H s l u hs1 h0 h1
  have hsz := fun (u : World) => rsize_yes W H s u hs1
  rw [hTW, hTH] at sb ht
  simp only [hTW, hTH] at hgy hsz ⊢
  obtain ⟨TN, hTN⟩ : ∃ TN : Nat, tnF W H s = TN := ⟨_, rfl⟩
  have hbT : Hid (∀ i, i < TN → 0 ≤ tileF W s f i ∧ tileF W s f i ≤ 255) := hide (fun i hi => h.byte _ (gcF_lt hs1 (by omega) hN))
  rw [hTN] at ht ⊢
  have hmul : (TW : Int) * (TH : Int) = (TN : Int) := ht.1.symm
  have HG := hide hgy
  have HS := hide hsz
  have HC := hide (fun r hr => (gcF_eq hs1 (l := r) hr).1)
  have HL := hide (fun r hr => gcF_lt hs1 (l := r) hr hN)
  have HE := hide hcell
  have HB := hide h.byte
  rw [hTN] at HC HL
  clear hgy hsz hcell hm hmb hN hf0 hs1 hTW hTH
  obtain ⟨ht0, ht1, ht2⟩ := ht
  clear ht0
  go_enter Tryz.func46, Tryz.ntmps46
  go_wp2_with (go_at_call 69; refine (HS.out _).mono ?_; rintro e w1 ⟨rfl, hd⟩; obtain ⟨m, rfl⟩ := hd)
  have HST := hide (To.first w W H (.slice (some ⟨b, o, none⟩) n cap) TW TH m (tileF W s f))
  go_loopw [8] (fun i u => ∃ (k : Nat) (a0 : Option Addr) (c0 : Nat), k ≤ TN ∧ i = .int .i64 k ∧ To w u W H (.slice (some ⟨b, o, none⟩) n cap) TW TH a0 k c0 (tileF W s f)) (fun i _ => TN - (intOf i).toNat)
  case atStart => exact ⟨0, none, 0, Nat.zero_le _, rfl, HST.out⟩
  case round =>
    clear HST
    obtain ⟨k, a0, c0, hk, rfl, hto⟩ := hrel
    obtain ⟨⟨c3, f3⟩, ⟨d1, d2, d3⟩, hsz⟩ := hto.cells
    have HT := hide hto
    obtain ⟨B2, hB2⟩ : ∃ B2, w.heap.size + 1 + 1 = B2 := ⟨_, rfl⟩
    rw [hB2] at c3 f3 hsz
    simp only [hB2]
    have hsz0 : w.heap.size < wr.heap.size := by omega
    have HB2 := hide hB2
    by_cases hlt : k < TN
    · obtain ⟨q, hq⟩ : ∃ q, gcF W s k = q := ⟨_, rfl⟩
      have hgq := HC.out k hlt
      have hqn := HL.out k hlt
      rw [hq] at hgq hqn
      have HGQ := hide hgq.symm
      have hcq : wr.cell? ⟨b, o + q, none⟩ = some (.int .u8 (f q)) := cell_gr (HE.out q hqn) hto.gr
      have E : Hid (tileF W s f k = f q) := hide (by unfold tileF; rw [hq])
      have hkl : (k : Int) < TW * TH := by rw [hmul]; omega
      clear hgq hq hto hB2
      go_wp2
      go_region_law (first | (refine step_append_own rfl (.tmp 29) (.tmp 41) 22 rfl (w.heap.size + 3) 5 i0 (.int .u8 0) 1 1 Tryz.underlying22 hi hz0 hz1 hz2 rfl (by decide) (.slice a0 k c0) k _ (by simp [Act.eval]) (HT.out.of (by (repeat (first | (with_reducible exact Gr.refl _) | (with_reducible assumption) | (with_reducible refine Gr.alloc ?_ _) | (with_reducible refine Gr.drewN ?_ _) | (with_reducible refine Gr.drew ?_) | (with_reducible refine Gr.set ?_ (by dsimp only; omega) _) | (with_reducible refine Gr.trans ?_ (by with_reducible assumption)))); first | done | fail)).own ⟨w2.heap.size, 0, none⟩ 1 1 [.int .u8 (f q)] (by simp [Act.eval]) rfl (alloc_one_at _ _ rfl) (by simp [Value.oneCell']) (by unfold maxLen; omega) (by omega) (by simp only [World.size_alloc]; have := HB2.out; omega) ?_; intro v' w1 hown' hgrow; obtain ⟨a1, c1', rfl, hbx, hto1⟩ := (HT.out.of (by (repeat (first | (with_reducible exact Gr.refl _) | (with_reducible assumption) | (with_reducible refine Gr.alloc ?_ _) | (with_reducible refine Gr.drewN ?_ _) | (with_reducible refine Gr.drew ?_) | (with_reducible refine Gr.set ?_ (by dsimp only; omega) _) | (with_reducible refine Gr.trans ?_ (by with_reducible assumption)))); first | done | fail)).step hown' hgrow E.out HB2.out; obtain ⟨-, -, e3, -, -, g3⟩ := row_cells hbx; clear hown' hgrow) | (go_simp; go_wp2_with (go_at_call 70; refine (HG.out _ _ (by omega) (by omega)).mono ?_; rintro e w2 ⟨rfl, hd2⟩; have hg2 := Dr.gr hd2; clear hd2; rw [HGQ.out]; have c3' := cell_gr c3 ((Gr.refl wr).drew.trans hg2); have f3' := froz_gr c3 f3 ((Gr.refl wr).drew.trans hg2); have d3' := cell_gr d3 ((Gr.refl wr).drew.trans hg2); have hcq' := cell_gr hcq ((Gr.refl wr).drew.trans hg2); have z0 : B2 < w2.heap.size := (Nat.lt_of_lt_of_le hsz hg2.size); have z1 : w.heap.size < w2.heap.size := (Nat.lt_of_lt_of_le hsz0 hg2.size))))
      all_goals
        clear c3' f3' d3' hcq' z0 z1 c3 f3 d1 d2 d3 hcq HG HS HC HL HE HB e3 g3
        go_wp2
        go_roundw
        case rel => exact ⟨k + 1, a1, c1', by omega, by go_num, hto1⟩
        case measure => simp [intOf]; omega
    · have hkT : k = TN := by omega
      subst hkT
      have hown := HT.out.own
      obtain ⟨e1, e2, e3, j1, j2, j3⟩ := row_cells HT.out.res
      obtain ⟨x1, x2, x3, -, -, -⟩ := row_cells HT.out.box
      rw [hB2] at x1 x2 x3
      obtain ⟨g, rfl, hend⟩ := to_end hown (by omega) hbT.out (.int .i64 TW) (.int .i64 TH) (.slice a0 k c0)
      have hgw := HT.out.gr
      clear HT hown hB2 d1 d2 d3 c3 f3
      go_wp2
      exact bodyPost_ret (v := .agg #[.int .i64 TW, .int .i64 TH, .slice (some ⟨g, 0, none⟩) k c0]) (by simp [results, Tryz.results46, go_sem, e1, e2, e3]) rfl ⟨⟨g, c0, rfl, hend⟩, gr_set3 hgw (by omega)⟩

end Go.Proofs.YtgbadbkipaccgaaGreat
