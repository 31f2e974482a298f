/- A map in plain words: its sectors, their tiles; boxes of three cells in memory. No condition. -/
import Derived.Test.YtmejpildmapfiaaTMates
namespace Go.Proofs.Ytmejpildmapfiaa
open Go.RowKit

/-- how many cells a sector has; how many sectors there are -/
def tnF (W H : Int) (s : Nat) : Nat := (twF W s * thF W H s).toNat
def cntS (W H : Int) : Nat := (countF W H).toNat
/-- the cell of a sector's local -/
def gcF (W : Int) (s l : Nat) : Nat := (globalF W s l).toNat
/-- a sector's costs -/
def tileF (W : Int) (s : Nat) (f : Nat → Int) (l : Nat) : Int := f (gcF W s l)

theorem sec_of {W H : Int} {s : Nat} (h : s < cntS W H) : isSectorB W H s = true := by
  rw [count_iff]
  unfold cntS at h
  omega
theorem cntS_eq {W H : Int} (hm : mayB W H = true) : (cntS W H : Int) = acrossF W * acrossF H ∧ 1 ≤ cntS W H ∧ cntS W H ≤ 4096 := by
  have := across_mul hm
  unfold cntS countF
  rw [if_pos hm]
  omega
theorem cntS_int (W H : Int) : (cntS W H : Int) = countF W H := by
  have := count_bd W H
  unfold cntS
  omega
theorem tnF_eq {W H : Int} {s : Nat} (hs : isSectorB W H s = true) : (tnF W H s : Int) = twF W s * thF W H s ∧ 1 ≤ tnF W H s ∧ tnF W H s ≤ 256 := by
  have := localB_mul hs
  unfold tnF
  omega
theorem gcF_eq {W H : Int} {s l : Nat} (hs : isSectorB W H s = true) (hl : l < tnF W H s) : (gcF W s l : Int) = globalF W s l ∧ isCellB W H (gcF W s l) = true ∧ sectorF W (gcF W s l) = s ∧ localF W (gcF W s l) = l := by
  have ht := tnF_eq hs
  have hl' : (l : Int) < twF W s * thF W H s := by omega
  have hc := (global_cell hs (by omega : (0 : Int) ≤ l) hl').1
  have h0 := ((isCellB_iff _ _ _).1 hc).2.1
  have e : (gcF W s l : Int) = globalF W s l := by unfold gcF; omega
  rw [e]
  exact ⟨rfl, hc, global_sector hs (by omega) hl', global_local hs (by omega) hl'⟩
theorem gcF_lt {W H : Int} {s l N : Nat} (hs : isSectorB W H s = true) (hl : l < tnF W H s) (hN : (N : Int) = W * H) : gcF W s l < N := by
  have := ((isCellB_iff _ _ _).1 (gcF_eq hs hl).2.1).2.2
  omega
/-- where a cell is: its sector and its local -/
theorem cell_at {W H : Int} {N c : Nat} (hm : mayB W H = true) (hN : (N : Int) = W * H) (hc : c < N) :
    ∃ s l, s < cntS W H ∧ l < tnF W H s ∧ sectorF W c = (s : Nat) ∧ localF W c = (l : Nat) ∧ gcF W s l = c := by
  have hk : isCellB W H c = true := by rw [isCellB_iff]; exact ⟨hm, by omega, by omega⟩
  obtain ⟨-, -, hs⟩ := sectorF_mod hk
  have hl := localF_bd hk
  have hb := global_back hk
  have hs' := (isSectorB_iff _ _ _).1 hs
  obtain ⟨s, e⟩ : ∃ s : Nat, sectorF W c = s := ⟨(sectorF W c).toNat, by omega⟩
  obtain ⟨l, e2⟩ : ∃ l : Nat, localF W c = l := ⟨(localF W c).toNat, by omega⟩
  rw [e] at hs hs' hl hb
  rw [e2] at hl hb
  refine ⟨s, l, ?_, ?_, e, e2, ?_⟩
  · have := (cntS_eq hm).1
    omega
  · have := (tnF_eq hs).1
    omega
  · unfold gcF
    rw [hb]
    omega

/-- which maps may be -/
def mayM (W H : Int) (n : Nat) (f : Nat → Int) : Bool := mayB W H && decide ((n : Int) = W * H) && fullB n f
theorem mayM_iff (W H : Int) (n : Nat) (f : Nat → Int) : mayM W H n f = true ↔ mayB W H = true ∧ (n : Int) = W * H ∧ ∀ i, i < n → f i ≠ 0 := by
  simp [mayM, fullB_iff, and_assoc]
theorem tile_may {W H : Int} {n s : Nat} {f : Nat → Int} (h : mayM W H n f = true) (hs : isSectorB W H s = true) : mayTB (twF W s) (thF W H s) (tnF W H s) (tileF W s f) = true := by
  obtain ⟨hm, hn, hf⟩ := (mayM_iff _ _ _ _).1 h
  have ht := tnF_eq hs
  have sb := size_bd hs
  rw [mayTB_iff]
  exact ⟨⟨by omega, by omega⟩, ⟨by omega, by omega⟩, ht.1, fun l hl => hf _ (gcF_lt hs hl hn)⟩

theorem tri_cells (w1 : World) (W H : Int) (v : Value) (t : TypeId) : (w1.alloc (.cells #[.int .i64 W, .int .i64 H, v] t)).cell? ⟨w1.heap.size, 0, none⟩ = some (.int .i64 W) ∧ (w1.alloc (.cells #[.int .i64 W, .int .i64 H, v] t)).cell? ⟨w1.heap.size, 1, none⟩ = some (.int .i64 H) ∧ (w1.alloc (.cells #[.int .i64 W, .int .i64 H, v] t)).cell? ⟨w1.heap.size, 2, none⟩ = some v := by
  refine ⟨?_, ?_, ?_⟩ <;> simp [go_sem]
theorem Sl.setF {w : World} {g n : Nat} {f : Nat → Int} {p : Addr} {v : Value} (h : Sl w (some ⟨g, 0, none⟩) n f) (hp : g ≠ p.block) : Sl (w.setCell p v) (some ⟨g, 0, none⟩) n f := by
  refine ⟨h.byte, ?_⟩
  rcases h.has with h0 | ⟨b, o, e, hb, hc⟩
  · exact .inl h0
  · cases e
    refine .inr ⟨_, _, rfl, by simpa [World.setCell] using hb, fun i hi => ?_⟩
    rw [World.cell?_of_block (w := w) (Below.heap_setCell w p v g hp)]
    exact hc i hi
theorem sl_apart {w : World} {g n q : Nat} {f : Nat → Int} {x : Int} (h : Sl w (some ⟨g, 0, none⟩) n f) (hn : 1 ≤ n) (hq : w.cell? ⟨q, 0, none⟩ = some (.int .i64 x)) : g ≠ q := by
  rintro rfl
  obtain ⟨b, o, e, _, hc⟩ := h.at (by omega)
  cases e
  have := hc 0 (by omega)
  rw [Nat.zero_add, hq] at this
  simp at this
theorem cell_far3 {w : World} {k o q : Nat} {v x y z : Value} (h : w.cell? ⟨k, o, none⟩ = some v) (hq : k ≠ q) : (((w.setCell ⟨q, 0, none⟩ x).setCell ⟨q, 1, none⟩ y).setCell ⟨q, 2, none⟩ z).cell? ⟨k, o, none⟩ = some v := by
  rw [World.cell?_setCell_far _ _ _ _ (by exact fun e => hq e.symm), World.cell?_setCell_far _ _ _ _ (by exact fun e => hq e.symm), World.cell?_setCell_far _ _ _ _ (by exact fun e => hq e.symm)]
  exact h
theorem gr_set3 {a w : World} {q : Nat} {x y z : Value} (h : Gr a w) (hq : a.heap.size ≤ q) : Gr a (((w.setCell ⟨q, 0, none⟩ x).setCell ⟨q, 1, none⟩ y).setCell ⟨q, 2, none⟩ z) :=
  ((h.set (p := ⟨q, 0, none⟩) hq _).set (p := ⟨q, 1, none⟩) hq _).set (p := ⟨q, 2, none⟩) hq _
theorem row_set3 {w : World} {b : Nat} {t : TypeId} {x y z u0 u1 u2 : Value} (h : w.rowIs b t 3 (tri x y z)) : (((w.setCell ⟨b, 0, none⟩ u0).setCell ⟨b, 1, none⟩ u1).setCell ⟨b, 2, none⟩ u2).rowIs b t 3 (tri u0 u1 u2) := by
  refine World.rowIs.congr (((h.set 0 u0).set 1 u1).set 2 u2) ?_
  intro i hi
  rcases (by omega : i = 0 ∨ i = 1 ∨ i = 2) with rfl | rfl | rfl <;> simp [tri]


end Go.Proofs.Ytmejpildmapfiaa
