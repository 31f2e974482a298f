/- What atlas.readMap and Get answer, of bytes in memory. -/
import Derived.Test.YtakmiafloolpmaaDoorARead
import Derived.Laws.BitsAllLaws
namespace Go.Proofs.YtakmiafloolpmaaDoor
open Go.RowKit
set_option maxRecDepth 20000

/-- an error of this code -/
def Er (w : World) (k : Int) (v : Value) : Prop :=
  (∃ rb, v = .iface 77 (.pointer (some ⟨rb, 0, none⟩)) ∧ w.cell? ⟨rb, 0, none⟩ = some (.int .i64 k)) ∨
  (∃ fb rb, v = .iface 103 (.pointer (some ⟨fb, 0, none⟩)) ∧ w.cell? ⟨fb, 1, none⟩ = some (.iface 77 (.pointer (some ⟨rb, 0, none⟩))) ∧ w.cell? ⟨rb, 0, none⟩ = some (.int .i64 k))
theorem Er.gr {w w' : World} {k : Int} {v : Value} (h : Er w k v) (g : Gr w w') : Er w' k v := by
  rcases h with ⟨rb, rfl, h⟩ | ⟨fb, rb, rfl, h1, h2⟩
  · exact .inl ⟨rb, rfl, cell_gr h g⟩
  · exact .inr ⟨fb, rb, rfl, cell_gr h1 g, cell_gr h2 g⟩

theorem or_two {x y : Int} (hx : 0 ≤ x ∧ x ≤ 255) (hy : 0 ≤ y ∧ y ≤ 255) : bits .or .i64 x (y * 256) = x + 256 * y := by
  obtain ⟨a, rfl⟩ := Int.eq_ofNat_of_zero_le hx.1
  obtain ⟨c, rfl⟩ := Int.eq_ofNat_of_zero_le hy.1
  have e : ((c : Int) * 256) = ((c * 256 : Nat) : Int) := by push_cast; rfl
  rw [e]
  show IntKind.i64.wrap ((BitVec.ofInt 64 (a : Int) ||| BitVec.ofInt 64 ((c * 256 : Nat) : Int)).toNat : Int) = _
  rw [BitVec.toNat_or, ofInt_u64 a (by omega), ofInt_u64 (c * 256) (by omega), nat_join8' (c * 256) a (by omega) (by omega), IntKind.wrap_i64]
  omega
/-- what readMap answers -/
def RdM (w : World) (B : Nat) (b : Nat → Int) (v : Value) : Prop :=
  ((getM B b).1 = 0 ∧ ∃ g N : Nat, v = .tuple #[.agg #[.int .i64 (wOf b), .int .i64 (hOf b), .slice (some ⟨g, 0, none⟩) N N], .nilIface] ∧ (N : Int) = wOf b * hOf b ∧ N ≤ 1048576 ∧ Row w g N (joinF (wOf b) (getM B b).2)) ∨
  ((getM B b).1 ≠ 0 ∧ ∃ ev, v = .tuple #[.agg #[.int .i64 0, .int .i64 0, .slice none 0 0], ev] ∧ Er w (getM B b).1 ev)

set_option maxHeartbeats 1000000 in
theorem readMap_short (a : Option Addr) (B cap : Nat) (b : Nat → Int) (w : World) (h4 : B < 4) :
    Calls Tryd.prog 42 #[.slice a B cap] w fun e w' => (∃ v, e = .returned v ∧ RdM w' B b v) ∧ Gr w w' := by
  have R : getM B b = (2, []) := by unfold getM; rw [if_pos h4]
  have i2 : (B : Int) < 4 := by omega
  go_enter Tryd.func42, Tryd.ntmps42
  go_wp2_with fail
  refine bodyPost_ret (v := .tuple #[.agg #[.int .i64 0, .int .i64 0, .slice none 0 0], .iface 77 (.pointer (some ⟨w.heap.size + 1, 0, none⟩))]) (by simp [results, Tryd.results42, go_sem]) rfl ?_
  refine ⟨⟨_, rfl, .inr ?_⟩, (by repeat (first | exact Gr.refl _ | assumption | exact Dr.gr (by assumption) | refine Gr.alloc ?_ _ | refine Gr.drewN ?_ _ | refine Gr.drew ?_ | (refine Gr.set ?_ (by first | exact Nat.le_refl _ | exact Nat.le_succ _ | (show _ ≤ _; omega) | (simp only [World.size_alloc] at *; omega)) _) | refine Gr.trans ?_ (by assumption) | refine Gr.trans ?_ (Dr.gr (by assumption))))⟩
  rw [R]
  exact ⟨by decide, _, rfl, .inl ⟨_, rfl, by simp [go_sem]⟩⟩

set_option maxHeartbeats 4000000 in
theorem readMap_bad (a : Option Addr) (B cap : Nat) (b : Nat → Int) (w : World) (h : Sl w a B b) (hB7 : B ≤ 1000000) (h4 : 4 ≤ B) (hm : mayB (wOf b) (hOf b) = false) :
    Calls Tryd.prog 42 #[.slice a B cap] w fun e w' => (∃ v, e = .returned v ∧ RdM w' B b v) ∧ Gr w w' := by
  have HGM : Hid (getM B b = (3, [])) := hide (by unfold getM; rw [if_neg (by omega), if_pos hm])
  obtain ⟨bb, oo, rfl, hbb, hcell⟩ := h.at (by omega)
  have c0 := hcell 0 (by omega)
  rw [Nat.add_zero] at c0
  have c1 := hcell 1 (by omega)
  have c2 := hcell 2 (by omega)
  have c3 := hcell 3 (by omega)
  have y0 := h.byte 0 (by omega)
  have y1 := h.byte 1 (by omega)
  have y2 := h.byte 2 (by omega)
  have y3 := h.byte 3 (by omega)
  have o1 := or_two y0 y1
  have o2 := or_two y2 y3
  have hW : b 0 + 256 * b 1 = wOf b := rfl
  have hH : b 2 + 256 * b 3 = hOf b := rfl
  rw [hW] at o1
  rw [hH] at o2
  clear h hW hH hcell
  generalize wOf b = W at *
  generalize hOf b = H at *
  generalize b 0 = b0 at *
  generalize b 1 = b1 at *
  generalize b 2 = b2 at *
  generalize b 3 = b3 at *
  have i1 : (4 : Int) ≤ (B : Int) := by omega
  have i2 : ¬ (B : Int) < 4 := by omega
  have R1 := hide (tri_alloc w (.int .i64 0) (.int .i64 0) (.slice none 0 0) 24)
  go_enter Tryd.func42, Tryd.ntmps42
  go_wp2_with fail
  go_quiet (fail)
  clear o1 o2 c0 c1 c2 c3 y0 y1 y2 y3
  go_wp2_with (go_at_call 36; refine (may_any _ _ _).mono ?_; rintro e w1 ⟨rfl, hd⟩; rw [hm]; have hg1 := Dr.gr hd; obtain ⟨e1, e2, e3, j1, j2, j3⟩ := row_cells (row_gr R1.out (((Gr.refl _).drewN nq).trans hg1)); have hz1 : w.heap.size < w1.heap.size := (row_gr R1.out (((Gr.refl _).drewN nq).trans hg1)).lt)
  have hG : Gr w w1 := (((Gr.refl w).alloc _).drewN nq).trans hg1
  obtain ⟨m0, m1, m2, -, -, -⟩ := row_cells ((row_set3 (u0 := .int .i64 0) (u1 := .int .i64 0) (u2 := .slice none 0 0) (row_gr R1.out (((Gr.refl _).drewN nq).trans hg1))).alloc (.cells #[.int .i64 3, .string { data := #[115, 105, 100, 101, 115, 32, 116, 104, 97, 116, 32, 110, 111, 32, 109, 97, 112, 32, 104, 97, 115] }] 79))
  have hg3 := gr_set3 (x := .int .i64 0) (y := .int .i64 0) (z := .slice none 0 0) hG (Nat.le_refl _)
  have hz3 : (((w1.setCell ⟨w.heap.size, 0, none⟩ (.int .i64 0)).setCell ⟨w.heap.size, 1, none⟩ (.int .i64 0)).setCell ⟨w.heap.size, 2, none⟩ (.slice none 0 0)).heap.size = w1.heap.size := by simp [go_sem]
  generalize (((w1.setCell ⟨w.heap.size, 0, none⟩ (.int .i64 0)).setCell ⟨w.heap.size, 1, none⟩ (.int .i64 0)).setCell ⟨w.heap.size, 2, none⟩ (.slice none 0 0)) = u3 at *
  refine bodyPost_ret (v := .tuple #[.agg #[.int .i64 0, .int .i64 0, .slice none 0 0], .iface 77 (.pointer (some ⟨w1.heap.size, 0, none⟩))]) (by simp [results, Tryd.results42, go_sem, m0, m1, m2]) rfl ?_
  refine ⟨⟨_, rfl, .inr ?_⟩, hg3.alloc _⟩
  rw [HGM.out]
  refine ⟨by decide, _, rfl, .inl ⟨_, rfl, ?_⟩⟩
  rw [← hz3]
  simp [go_sem]

end Go.Proofs.YtakmiafloolpmaaDoor
