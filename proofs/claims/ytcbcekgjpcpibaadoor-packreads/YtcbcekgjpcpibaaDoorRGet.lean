/- What the document's GetTile answers: the same as Get. -/
import Derived.Test.YtcbcekgjpcpibaaDoorPBack
namespace Go.Proofs.YtcbcekgjpcpibaaDoor
open Go.RowKit
set_option maxRecDepth 20000

/-- what the document reads at the end comes to the same -/
theorem tail_eq {n B u : Nat} {b : Nat → Int} {L : List Int} (hb : ∀ i, i < B → 0 ≤ b i ∧ b i ≤ 255) (hn : 1 ≤ n) (h1 : fullB n (at0 L) = true → readL n B b = (0, L, u)) (h2 : fullB n (at0 L) = false → readL n B b = (3, [], 0)) :
    (fullB n (at0 L) = false → getL n B b = (3, [], 0)) ∧ (fullB n (at0 L) = true → sameB (putL n (at0 L)).length (at0 (putL n (at0 L))) u b = false → getL n B b = (3, [], 0)) ∧ (fullB n (at0 L) = true → sameB (putL n (at0 L)).length (at0 (putL n (at0 L))) u b = true → getL n B b = (0, L, u)) := by
  refine ⟨fun e => ?_, fun e s => ?_, fun e s => ?_⟩
  · have := h2 e
    unfold getL
    rw [this, if_pos (by simp)]
  · have hr := h1 e
    have hp := read_put hb hn hr
    unfold getL
    rw [hr, if_neg (by simp), if_pos]
    intro hf
    have := hp.2 hf
    rw [this] at s
    have hs : sameB (lst u b).length (at0 (lst u b)) u b = true := sameB_of (lst_len _ _) (fun i hi => at0_lst (by rw [lst_len] at hi; exact hi))
    rw [hs] at s
    cases s
  · have hr := h1 e
    have hp := read_put hb hn hr
    unfold getL
    rw [hr, if_neg (by simp), if_neg]
    intro hf
    apply hf
    apply hp.1
    obtain ⟨s1, s2⟩ := (sameB_iff _ _ _ _).1 s
    have e1 := lst_at0 (putL n (at0 L))
    rw [← e1, lst_congr s2, s1]

/-- the document's three boxes, and the costs so far -/
structure St (w u : World) (W H : Int) (a0 : Option Addr) (c0 : Nat) (L : List Int) : Prop where
  own : u.ownsRow (w.heap.size + 3) 5 1 (.slice a0 L.length c0) L.length (L.map (Value.int .u8))
  r2 : u.rowIs (w.heap.size + 2) 26 3 (tri (.int .i64 W) (.int .i64 H) (.slice a0 L.length c0))
  r1 : u.rowIs (w.heap.size + 1) 26 3 (tri (.int .i64 0) (.int .i64 0) (.slice none 0 0))
  r0 : u.rowIs w.heap.size 26 3 (tri (.int .i64 0) (.int .i64 0) (.slice none 0 0))
  gr : Gr w u
theorem St.of {w u u' : World} {W H : Int} {a0 : Option Addr} {c0 : Nat} {L : List Int} (h : St w u W H a0 c0 L) (g : Gr u u') : St w u' W H a0 c0 L :=
  ⟨own_gr h.own g, row_gr h.r2 g, row_gr h.r1 g, row_gr h.r0 g, h.gr.trans g⟩
theorem St.first (w : World) (W H : Int) : St w (((w.alloc (.cells #[.int .i64 0, .int .i64 0, .slice none 0 0] 26)).alloc (.cells #[.int .i64 0, .int .i64 0, .slice none 0 0] 26)).alloc (.cells #[.int .i64 W, .int .i64 H, .slice none 0 0] 26)) W H none 0 [] := by
  refine ⟨World.ownsRow_nil _ _ _ _, ?_, ?_, ?_, (((Gr.refl w).alloc _).alloc _).alloc _⟩
  · have := tri_alloc ((w.alloc (.cells #[.int .i64 0, .int .i64 0, .slice none 0 0] 26)).alloc (.cells #[.int .i64 0, .int .i64 0, .slice none 0 0] 26)) (.int .i64 W) (.int .i64 H) (.slice none 0 0) 26
    rw [World.size_alloc, World.size_alloc] at this
    exact this
  · have := tri_alloc (w.alloc (.cells #[.int .i64 0, .int .i64 0, .slice none 0 0] 26)) (.int .i64 0) (.int .i64 0) (.slice none 0 0) 26
    rw [World.size_alloc] at this
    exact row_gr this ((Gr.refl _).alloc _)
  · exact row_gr (tri_alloc w (.int .i64 0) (.int .i64 0) (.slice none 0 0) 26) (((Gr.refl _).alloc _).alloc _)
/-- behind an append of news -/
theorem St.step {w u u' w1 : World} {W H : Int} {a0 : Option Addr} {c0 m : Nat} {L M : List Int} {v' : Value} (h : St w u W H a0 c0 L) (hu : Gr u u') (hm : M.length = m) (ho : w1.ownsRow (w.heap.size + 3) 5 1 v' (L.length + m) (L.map (Value.int .u8) ++ M.map (Value.int .u8))) (hg : u'.grownBy w1 (Value.slice a0 L.length c0).ownBlock) :
    ∃ a1 c1, v' = .slice a1 (L ++ M).length c1 ∧ w1.ownsRow (w.heap.size + 3) 5 1 (.slice a1 (L ++ M).length c1) (L ++ M).length ((L ++ M).map (Value.int .u8)) ∧ w1.rowIs (w.heap.size + 2) 26 3 (tri (.int .i64 W) (.int .i64 H) (.slice a0 L.length c0)) ∧ w1.rowIs (w.heap.size + 1) 26 3 (tri (.int .i64 0) (.int .i64 0) (.slice none 0 0)) ∧ w1.rowIs w.heap.size 26 3 (tri (.int .i64 0) (.int .i64 0) (.slice none 0 0)) ∧ Gr w w1 := by
  have hl := h.own.lt
  have e1 : (L ++ M).length = L.length + m := by rw [List.length_append, hm]
  rw [← List.map_append, ← e1] at ho
  have hf : ∃ a1 c1, v' = .slice a1 (L ++ M).length c1 := by
    rcases ho.2 with ⟨rfl, h0⟩ | ⟨g, cap, cur, rfl, _⟩
    · exact ⟨none, 0, by rw [h0]⟩
    · exact ⟨_, _, rfl⟩
  obtain ⟨a1, c1, rfl⟩ := hf
  exact ⟨a1, c1, rfl, ho, row_grown (row_gr h.r2 hu) hg (fun q e => by have := (hl q e).1; omega), row_grown (row_gr h.r1 hu) hg (fun q e => by have := (hl q e).1; omega), row_grown (row_gr h.r0 hu) hg (fun q e => by have := (hl q e).1; omega), Gr.grown (h.gr.trans hu) hg (fun q e => by have := (hl q e).1; omega)⟩
theorem St.next {w w1 : World} {W H : Int} {a1 : Option Addr} {c1 : Nat} {L : List Int} {z : Value} (ho : w1.ownsRow (w.heap.size + 3) 5 1 (.slice a1 L.length c1) L.length (L.map (Value.int .u8))) (h2 : w1.rowIs (w.heap.size + 2) 26 3 (tri (.int .i64 W) (.int .i64 H) z)) (h1 : w1.rowIs (w.heap.size + 1) 26 3 (tri (.int .i64 0) (.int .i64 0) (.slice none 0 0))) (h0 : w1.rowIs w.heap.size 26 3 (tri (.int .i64 0) (.int .i64 0) (.slice none 0 0))) (hg : Gr w w1) :
    St w (w1.setCell ⟨w.heap.size + 2, 2, none⟩ (.slice a1 L.length c1)) W H a1 c1 L :=
  ⟨ownsRow_setCell_below ho (a := ⟨w.heap.size + 2, 2, none⟩) (by show w.heap.size + 2 < w.heap.size + 3; omega) _, World.rowIs.congr (h2.set 2 _) (tri_set _ _ _ _), h1.setOther (by show w.heap.size + 1 ≠ w.heap.size + 2; omega) _, h0.setOther (by show w.heap.size ≠ w.heap.size + 2; omega) _, hg.set (by show _ ≤ w.heap.size + 2; omega) _⟩
theorem St.sl {w u : World} {W H : Int} {a0 : Option Addr} {c0 : Nat} {L : List Int} (h : St w u W H a0 c0 L) (hb : ∀ x ∈ L, 0 ≤ x ∧ x ≤ 255) (hn : 1 ≤ L.length) : ∃ g, a0 = some ⟨g, 0, none⟩ ∧ OwnB u (w.heap.size + 3) g L.length c0 (at0 L) := by
  obtain ⟨g, c, e, -⟩ := RowL.form (w := u) (base := w.heap.size + 3) (v := .slice a0 L.length c0) (L := L) h.own hn
  simp only [Value.slice.injEq] at e
  obtain ⟨rfl, _, rfl⟩ := e
  exact ⟨g, rfl, RowL.ownB h.own hb⟩
/-- the cells of the three boxes -/
theorem St.cells {w u : World} {W H : Int} {a0 : Option Addr} {c0 : Nat} {L : List Int} (h : St w u W H a0 c0 L) :
    (u.cell? ⟨w.heap.size + 2, 0, none⟩ = some (.int .i64 W) ∧ u.cell? ⟨w.heap.size + 2, 1, none⟩ = some (.int .i64 H) ∧ u.cell? ⟨w.heap.size + 2, 2, none⟩ = some (.slice a0 L.length c0) ∧ u.frozen? ⟨w.heap.size + 2, 2, none⟩ = false) ∧
    (u.cell? ⟨w.heap.size + 1, 0, none⟩ = some (.int .i64 0) ∧ u.cell? ⟨w.heap.size + 1, 1, none⟩ = some (.int .i64 0) ∧ u.cell? ⟨w.heap.size + 1, 2, none⟩ = some (.slice none 0 0)) ∧
    (u.cell? ⟨w.heap.size, 0, none⟩ = some (.int .i64 0) ∧ u.cell? ⟨w.heap.size, 1, none⟩ = some (.int .i64 0) ∧ u.cell? ⟨w.heap.size, 2, none⟩ = some (.slice none 0 0)) ∧
    u.frozen? ⟨w.heap.size, 0, none⟩ = false ∧ u.frozen? ⟨w.heap.size, 1, none⟩ = false ∧ u.frozen? ⟨w.heap.size, 2, none⟩ = false ∧ w.heap.size + 2 < u.heap.size :=
  ⟨⟨h.r2.cell (i := 0) (by omega), h.r2.cell (i := 1) (by omega), h.r2.cell (i := 2) (by omega), h.r2.frozen 2⟩, ⟨h.r1.cell (i := 0) (by omega), h.r1.cell (i := 1) (by omega), h.r1.cell (i := 2) (by omega)⟩, ⟨h.r0.cell (i := 0) (by omega), h.r0.cell (i := 1) (by omega), h.r0.cell (i := 2) (by omega)⟩, h.r0.frozen 0, h.r0.frozen 1, h.r0.frozen 2, h.r2.lt⟩

end Go.Proofs.YtcbcekgjpcpibaaDoor
