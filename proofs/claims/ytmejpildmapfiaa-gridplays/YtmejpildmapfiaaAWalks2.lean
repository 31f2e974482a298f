/- What atlas.cut, Put, Tile and the document's TileOf, PutMap answer, of maps in memory. -/
import Derived.Test.YtmejpildmapfiaaAWalks1
namespace Go.Proofs.Ytmejpildmapfiaa
open Go.RowKit
set_option maxRecDepth 20000

theorem froz_gr {u u' : World} {b o : Nat} {v : Value} (hc : u.cell? ⟨b, o, none⟩ = some v) (h : u.frozen? ⟨b, o, none⟩ = false) (g : Gr u u') : u'.frozen? ⟨b, o, none⟩ = false := by
  rw [g.frozen b o (World.block_lt_of_cell? u ⟨b, o, none⟩ hc)]
  exact h
theorem cel_plus {k : IntKind} {n m : Nat} {f g : Nat → Int} (h : ∀ j, j < m → g j = f (n + j)) : cel k n f ++ cel k m g = cel k (n + m) f := by
  unfold cel
  rw [List.range_add, List.map_append, List.map_map]
  congr 1
  exact List.map_congr_left fun j hj => by rw [h j (List.mem_range.1 hj)]; rfl
/-- a make of nothing, with room -/
theorem make_room (c : Nat) (hc : c ≤ 2000000) (w : World) : (Instr.makeSlice 22 (.int .i64 0) (.int .i64 (c : Int))).run Try.prog w = .ok (.slice (some ⟨w.heap.size, 0, none⟩) 0 c) (w.alloc (.cells (madeCells #[.int .u8 0] c) 5)) := by
  obtain ⟨i0, hi, hz0, hz1, hz2⟩ := info_parts info_u8
  have hr := run_make (P := Try.prog) w 22 5 i0 (.int .u8 0) Try.underlying22 hi hz0 .i64 .i64 0 c (by omega) (by omega) (by rw [hz2]; omega) (by omega)
  simp only [Int.toNat_natCast, hz1, Nat.mul_one] at hr
  exact hr
theorem own_set3 {w : World} {base g n c B : Nat} {xs : List Value} {x y z : Value} {e : TypeId} (h : w.ownsRow base e 1 (.slice (some ⟨g, 0, none⟩) n c) n xs) (hB : B < base) : (((w.setCell ⟨B, 0, none⟩ x).setCell ⟨B, 1, none⟩ y).setCell ⟨B, 2, none⟩ z).ownsRow base e 1 (.slice (some ⟨g, 0, none⟩) n c) n xs :=
  ownsRow_setCell_below (ownsRow_setCell_below (ownsRow_setCell_below h (a := ⟨B, 0, none⟩) hB x) (a := ⟨B, 1, none⟩) hB y) (a := ⟨B, 2, none⟩) hB z
/-- the cells of a row of a sector lie one behind the other -/
theorem gc_row {W H : Int} {s r j TW TH : Nat} (hs : isSectorB W H s = true) (h1 : twF W s = TW) (h2 : thF W H s = TH) (hr : r < TH) (hj : j < TW) : gcF W s (r * TW + j) = gcF W s (r * TW) + j ∧ r * TW + j < tnF W H s := by
  have ht := tnF_eq hs
  have hlt : r * TW + j < TW * TH := by
    have : (r + 1) * TW ≤ TH * TW := Nat.mul_le_mul_right _ hr
    rw [Nat.mul_comm TW TH]
    rw [Nat.add_mul] at this
    omega
  have htn : tnF W H s = TW * TH := by
    have := ht.1
    rw [h1, h2, ← Int.natCast_mul] at this
    omega
  refine ⟨?_, by omega⟩
  have e1 := (gcF_eq hs (l := r * TW + j) (by omega)).1
  have e0 := (gcF_eq hs (l := r * TW) (by omega)).1
  unfold globalF at e0 e1
  rw [h1] at e0 e1
  have d1 : ((r * TW + j : Nat) : Int) / (TW : Int) = r := by
    rw [← Int.natCast_ediv, Nat.mul_comm, Nat.mul_add_div (by omega), Nat.div_eq_of_lt hj, Nat.add_zero]
  have m1 : ((r * TW + j : Nat) : Int) % (TW : Int) = j := by
    rw [← Int.natCast_emod, Nat.mul_comm, Nat.mul_add_mod, Nat.mod_eq_of_lt hj]
  have d0 : ((r * TW : Nat) : Int) / (TW : Int) = r := by
    rw [← Int.natCast_ediv, Nat.mul_div_cancel _ (by omega)]
  have m0 : ((r * TW : Nat) : Int) % (TW : Int) = 0 := by
    rw [← Int.natCast_emod, Nat.mul_mod_left]; rfl
  rw [d1, m1] at e1
  rw [d0, m0] at e0
  omega

/-- a struct's box, and behind it one that is empty yet -/
theorem two_boxes (w : World) (W H : Int) (v : Value) (t t' : TypeId) : ((w.alloc (.cells #[.int .i64 W, .int .i64 H, v] t)).alloc (.cells #[.int .i64 0, .int .i64 0, .slice none 0 0] t')).rowIs w.heap.size t 3 (tri (.int .i64 W) (.int .i64 H) v) ∧
    ((w.alloc (.cells #[.int .i64 W, .int .i64 H, v] t)).alloc (.cells #[.int .i64 0, .int .i64 0, .slice none 0 0] t')).rowIs (w.heap.size + 1) t' 3 (tri (.int .i64 0) (.int .i64 0) (.slice none 0 0)) ∧ ((w.alloc (.cells #[.int .i64 W, .int .i64 H, v] t)).alloc (.cells #[.int .i64 0, .int .i64 0, .slice none 0 0] t')).heap.size = w.heap.size + 2 ∧
    Gr w ((w.alloc (.cells #[.int .i64 W, .int .i64 H, v] t)).alloc (.cells #[.int .i64 0, .int .i64 0, .slice none 0 0] t')) := by
  refine ⟨(tri_alloc w _ _ _ t).alloc _, ?_, by simp only [World.size_alloc], ((Gr.refl w).alloc _).alloc _⟩
  have := tri_alloc (w.alloc (.cells #[.int .i64 W, .int .i64 H, v] t)) (.int .i64 0) (.int .i64 0) (.slice none 0 0) t'
  rwa [World.size_alloc] at this
/-- the three cells of a box, and that none is frozen -/
theorem row_cells {w : World} {b : Nat} {t : TypeId} {x y z : Value} (h : w.rowIs b t 3 (tri x y z)) : w.cell? ⟨b, 0, none⟩ = some x ∧ w.cell? ⟨b, 1, none⟩ = some y ∧ w.cell? ⟨b, 2, none⟩ = some z ∧ w.frozen? ⟨b, 0, none⟩ = false ∧ w.frozen? ⟨b, 1, none⟩ = false ∧ w.frozen? ⟨b, 2, none⟩ = false :=
  ⟨h.cell (i := 0) (by omega), h.cell (i := 1) (by omega), h.cell (i := 2) (by omega), h.frozen 0, h.frozen 1, h.frozen 2⟩
theorem cut_next {w1 u U : World} {base k m g c : Nat} {v' : Value} {f t : Nat → Int} (h : w1.ownsRow base 5 1 v' (k + m) (cel .u8 k f ++ cel .u8 m t)) (hm : 0 < m) (ht : ∀ j, j < m → t j = f (k + j)) (hg : u.grownBy w1 (Value.slice (some ⟨g, 0, none⟩) k c).ownBlock) (h0 : Gr U u) (hgb : U.heap.size ≤ g) :
    ∃ g' c', v' = .slice (some ⟨g', 0, none⟩) (k + m) c' ∧ w1.ownsRow base 5 1 (.slice (some ⟨g', 0, none⟩) (k + m) c') (k + m) (cel .u8 (k + m) f) ∧ base ≤ g' ∧ Gr U w1 := by
  rw [cel_plus ht] at h
  rcases h.2 with ⟨_, h0'⟩ | ⟨g', cap, cur, rfl, hb', r⟩
  · omega
  · refine ⟨g', cap, rfl, h, hb', Gr.grown h0 hg ?_⟩
    intro j hj
    simp [Value.ownBlock] at hj
    omega
theorem cel_from {w u : World} {b o n q m : Nat} {f : Nat → Int} (h : Sl w (some ⟨b, o, none⟩) n f) (hq : q + m ≤ n) (g : Gr w u) : ∀ j v, (cel .u8 m (fun i => f (q + i)))[j]? = some v → u.cell? ((⟨b, o + q, none⟩ : Addr).add j) = some v := by
  by_cases hn : n = 0
  · intro j v hj
    have := (List.getElem?_eq_some_iff.1 hj).1
    rw [cel_len] at this
    omega
  obtain ⟨b', o', e, hB, hc⟩ := h.at (by omega)
  cases e
  refine cel_at (fun i hi => ?_) hB g
  rw [Nat.add_assoc]
  exact hc (q + i) (by omega)

end Go.Proofs.Ytmejpildmapfiaa
