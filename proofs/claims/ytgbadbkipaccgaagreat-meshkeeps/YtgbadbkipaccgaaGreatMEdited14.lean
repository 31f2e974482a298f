/- What the document's Edited answers: a copy of the map with one cost laid. No condition. -/
import Derived.Test.YtgbadbkipaccgaaGreatBG
namespace Go.Proofs.YtgbadbkipaccgaaGreat
open Go.RowKit
set_option maxRecDepth 20000

set_option maxHeartbeats 2000000 in
theorem edited_any (W H : Int) (a : Option Addr) (n cap : Nat) (f : Nat → Int) (k : Nat) (y : Int) (w : World) (h : Sl w a n f) (hbig : n ≤ 1048576) (hk : k < n) (hy : 0 ≤ y ∧ y ≤ 255) :
    Calls Tryz.prog 25 #[.agg #[.int .i64 W, .int .i64 H, .slice a n cap], .int .i64 k, .int .u8 y] w fun e w' => (∃ g c', e = .returned (.agg #[.int .i64 W, .int .i64 H, .slice (some ⟨g, 0, none⟩) n c']) ∧ n ≤ c' ∧ c' ≤ maxLen ∧ w.heap.size ≤ g ∧ g < w'.heap.size ∧ Sl w' (some ⟨g, 0, none⟩) n (putF f k y)) ∧ Gr w w' := by
  obtain ⟨R1, R2, hU, hUw⟩ := two_boxes w W H (.slice a n cap) 24 24
  have ha : a = none → n = 0 ∧ cap = 0 := by
    intro e
    obtain ⟨b, o, e2, -⟩ := h.at (by omega)
    rw [e] at e2
    cases e2
  go_enter Tryz.func25, Tryz.ntmps25
  go_wp2_with fail
  generalize ((w.alloc (.cells #[.int .i64 W, .int .i64 H, .slice a n cap] 24)).alloc (.cells #[.int .i64 0, .int .i64 0, .slice none 0 0] 24)) = U at *
  refine (ownMap_any W H a n cap f U (h.gr hUw) (by omega) ha).mono ?_
  rintro e w1 ⟨⟨g, c', rfl, hown⟩, hg1⟩
  have hBm := tri_alloc w1 (.int .i64 W) (.int .i64 H) (.slice (some ⟨g, 0, none⟩) n c') 24
  have hgr := (hUw.trans hg1).alloc (.cells #[.int .i64 W, .int .i64 H, .slice (some ⟨g, 0, none⟩) n c'] 24)
  have hrow := (Row.of_own hown.own).gr ((Gr.refl w1).alloc (.cells #[.int .i64 W, .int .i64 H, .slice (some ⟨g, 0, none⟩) n c'] 24))
  replace R2 := row_gr R2 (hg1.alloc (.cells #[.int .i64 W, .int .i64 H, .slice (some ⟨g, 0, none⟩) n c'] 24))
  obtain ⟨q1, q2, q3, q4, -⟩ := hown.sl
  have HB := hide hown.byte
  have hz1 := hBm.lt
  have hzz := hg1.size
  clear hown hg1 h R1 ha
  obtain ⟨u1, hu1⟩ : ∃ u1, u1 = w1.alloc (.cells #[.int .i64 W, .int .i64 H, .slice (some ⟨g, 0, none⟩) n c'] 24) := ⟨_, rfl⟩
  obtain ⟨B, hB⟩ : ∃ B, B = w1.heap.size := ⟨_, rfl⟩
  rw [← hu1] at hBm hgr hrow R2 hz1
  rw [← hB] at hBm hz1 q4
  have hk1 := Kp.one u1 g k (.int .u8 y)
  have hkI : (k : Int) < (n : Int) := by omega
  have hkc : k < c' := by omega
  have d0 := hrow.cell hk
  have f0 := hrow.frozen k
  obtain ⟨c1, c2, c3, -, -, -⟩ := row_cells hBm
  have hsl : Sl (u1.setCell ⟨g, k, none⟩ (.int .u8 y)) (some ⟨g, 0, none⟩) n (putF f k y) := by
    refine (hrow.set k y).sl (fun i hi => ?_)
    split
    · omega
    · exact HB.out i hi
  obtain ⟨x1, x2, x3, -, -, -⟩ := row_cells (hk1.row hBm (by omega))
  obtain ⟨e1, e2, e3, j1, j2, j3⟩ := row_cells (hk1.row R2 (by omega))
  have hgr2 := hk1.gr hgr (fun i hi => by omega)
  have hz3 : (u1.setCell ⟨g, k, none⟩ (.int .u8 y)).heap.size = u1.heap.size := by simp [go_sem]
  have HU := hide hu1
  have HBe := hide hB
  clear hu1 hB hBm hrow R2 hk1
  go_upto_region 2 with fail
  rw [← HU.out, ← HBe.out]
  go_wp2_with fail
  have hsl3 := ((hsl.setF (p := ⟨w.heap.size + 1, 0, none⟩) (v := .int .i64 W) (by show g ≠ w.heap.size + 1; omega)).setF (p := ⟨w.heap.size + 1, 1, none⟩) (v := .int .i64 H) (by show g ≠ w.heap.size + 1; omega)).setF (p := ⟨w.heap.size + 1, 2, none⟩) (v := .slice (some ⟨g, 0, none⟩) n c') (by show g ≠ w.heap.size + 1; omega)
  have hgr3 := gr_set3 (x := .int .i64 W) (y := .int .i64 H) (z := .slice (some ⟨g, 0, none⟩) n c') hgr2 (by omega : w.heap.size ≤ w.heap.size + 1)
  obtain ⟨b9, o9, e9, hb9, -⟩ := hsl3.at (by omega)
  cases e9
  exact bodyPost_ret (v := .agg #[.int .i64 W, .int .i64 H, .slice (some ⟨g, 0, none⟩) n c']) (by simp [results, Tryz.results25, go_sem, e1, e2, e3]) rfl ⟨⟨g, c', rfl, q1, q2, by omega, hb9, hsl3⟩, hgr3⟩

end Go.Proofs.YtgbadbkipaccgaaGreat
