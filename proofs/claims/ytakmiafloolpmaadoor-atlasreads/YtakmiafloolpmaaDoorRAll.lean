/- What the document's GetTile answers, of bytes in memory. -/
import Derived.Test.YtakmiafloolpmaaDoorPBack
namespace Go.Proofs.YtakmiafloolpmaaDoor
open Go.RowKit
set_option maxRecDepth 20000

/-- what the document reads at the end comes to the same -/
theorem tail_eq {n B u : Nat} {b : Nat → Int} {L : List Int} (hb : ∀ i, i < B → 0 ≤ b i ∧ b i ≤ 255) (hn : 1 ≤ n) (h1 : fullB n (at0 L) = true → readL n B b = (0, L, u)) (h2 : fullB n (at0 L) = false → readL n B b = (3, [], 0)) :
    (fullB n (at0 L) = false → getL n B b = (3, [], 0)) ∧ (fullB n (at0 L) = true → sameB (putL n (at0 L)).length (at0 (putL n (at0 L))) u b = false → getL n B b = (3, [], 0)) ∧ (fullB n (at0 L) = true → sameB (putL n (at0 L)).length (at0 (putL n (at0 L))) u b = true → getL n B b = (0, L, u)) := by
  refine ⟨fun e => ?_, fun e s => ?_, fun e s => ?_⟩
  · have := h2 e
    unfold getL
    rw [this, if_pos (by simp)]
  · have hr := h1 e
    have hp := read_put hb hn hr
    unfold getL
    rw [hr, if_neg (by simp), if_pos]
    intro hf
    have := hp.2 hf
    rw [this] at s
    have hs : sameB (lst u b).length (at0 (lst u b)) u b = true := sameB_of (lst_len _ _) (fun i hi => at0_lst (by rw [lst_len] at hi; exact hi))
    rw [hs] at s
    cases s
  · have hr := h1 e
    have hp := read_put hb hn hr
    unfold getL
    rw [hr, if_neg (by simp), if_neg]
    intro hf
    apply hf
    apply hp.1
    obtain ⟨s1, s2⟩ := (sameB_iff _ _ _ _).1 s
    have e1 := lst_at0 (putL n (at0 L))
    rw [← e1, lst_congr s2, s1]

/-- the document's three boxes, and the costs so far -/
structure St (w u : World) (W H : Int) (a0 : Option Addr) (c0 : Nat) (L : List Int) : Prop where
  own : u.ownsRow (w.heap.size + 3) 5 1 (.slice a0 L.length c0) L.length (L.map (Value.int .u8))
  r2 : u.rowIs (w.heap.size + 2) 31 3 (tri (.int .i64 W) (.int .i64 H) (.slice a0 L.length c0))
  r1 : u.rowIs (w.heap.size + 1) 31 3 (tri (.int .i64 0) (.int .i64 0) (.slice none 0 0))
  r0 : u.rowIs w.heap.size 31 3 (tri (.int .i64 0) (.int .i64 0) (.slice none 0 0))
  gr : Gr w u
theorem St.of {w u u' : World} {W H : Int} {a0 : Option Addr} {c0 : Nat} {L : List Int} (h : St w u W H a0 c0 L) (g : Gr u u') : St w u' W H a0 c0 L :=
  ⟨own_gr h.own g, row_gr h.r2 g, row_gr h.r1 g, row_gr h.r0 g, h.gr.trans g⟩
theorem St.first (w : World) (W H : Int) : St w (((w.alloc (.cells #[.int .i64 0, .int .i64 0, .slice none 0 0] 31)).alloc (.cells #[.int .i64 0, .int .i64 0, .slice none 0 0] 31)).alloc (.cells #[.int .i64 W, .int .i64 H, .slice none 0 0] 31)) W H none 0 [] := by
  refine ⟨World.ownsRow_nil _ _ _ _, ?_, ?_, ?_, (((Gr.refl w).alloc _).alloc _).alloc _⟩
  · have := tri_alloc ((w.alloc (.cells #[.int .i64 0, .int .i64 0, .slice none 0 0] 31)).alloc (.cells #[.int .i64 0, .int .i64 0, .slice none 0 0] 31)) (.int .i64 W) (.int .i64 H) (.slice none 0 0) 31
    rw [World.size_alloc, World.size_alloc] at this
    exact this
  · have := tri_alloc (w.alloc (.cells #[.int .i64 0, .int .i64 0, .slice none 0 0] 31)) (.int .i64 0) (.int .i64 0) (.slice none 0 0) 31
    rw [World.size_alloc] at this
    exact row_gr this ((Gr.refl _).alloc _)
  · exact row_gr (tri_alloc w (.int .i64 0) (.int .i64 0) (.slice none 0 0) 31) (((Gr.refl _).alloc _).alloc _)
/-- behind an append of news -/
theorem St.step {w u u' w1 : World} {W H : Int} {a0 : Option Addr} {c0 m : Nat} {L M : List Int} {v' : Value} (h : St w u W H a0 c0 L) (hu : Gr u u') (hm : M.length = m) (ho : w1.ownsRow (w.heap.size + 3) 5 1 v' (L.length + m) (L.map (Value.int .u8) ++ M.map (Value.int .u8))) (hg : u'.grownBy w1 (Value.slice a0 L.length c0).ownBlock) :
    ∃ a1 c1, v' = .slice a1 (L ++ M).length c1 ∧ w1.ownsRow (w.heap.size + 3) 5 1 (.slice a1 (L ++ M).length c1) (L ++ M).length ((L ++ M).map (Value.int .u8)) ∧ w1.rowIs (w.heap.size + 2) 31 3 (tri (.int .i64 W) (.int .i64 H) (.slice a0 L.length c0)) ∧ w1.rowIs (w.heap.size + 1) 31 3 (tri (.int .i64 0) (.int .i64 0) (.slice none 0 0)) ∧ w1.rowIs w.heap.size 31 3 (tri (.int .i64 0) (.int .i64 0) (.slice none 0 0)) ∧ Gr w w1 := by
  have hl := h.own.lt
  have e1 : (L ++ M).length = L.length + m := by rw [List.length_append, hm]
  rw [← List.map_append, ← e1] at ho
  have hf : ∃ a1 c1, v' = .slice a1 (L ++ M).length c1 := by
    rcases ho.2 with ⟨rfl, h0⟩ | ⟨g, cap, cur, rfl, _⟩
    · exact ⟨none, 0, by rw [h0]⟩
    · exact ⟨_, _, rfl⟩
  obtain ⟨a1, c1, rfl⟩ := hf
  exact ⟨a1, c1, rfl, ho, row_grown (row_gr h.r2 hu) hg (fun q e => by have := (hl q e).1; omega), row_grown (row_gr h.r1 hu) hg (fun q e => by have := (hl q e).1; omega), row_grown (row_gr h.r0 hu) hg (fun q e => by have := (hl q e).1; omega), Gr.grown (h.gr.trans hu) hg (fun q e => by have := (hl q e).1; omega)⟩
theorem St.next {w w1 : World} {W H : Int} {a1 : Option Addr} {c1 : Nat} {L : List Int} {z : Value} (ho : w1.ownsRow (w.heap.size + 3) 5 1 (.slice a1 L.length c1) L.length (L.map (Value.int .u8))) (h2 : w1.rowIs (w.heap.size + 2) 31 3 (tri (.int .i64 W) (.int .i64 H) z)) (h1 : w1.rowIs (w.heap.size + 1) 31 3 (tri (.int .i64 0) (.int .i64 0) (.slice none 0 0))) (h0 : w1.rowIs w.heap.size 31 3 (tri (.int .i64 0) (.int .i64 0) (.slice none 0 0))) (hg : Gr w w1) :
    St w (w1.setCell ⟨w.heap.size + 2, 2, none⟩ (.slice a1 L.length c1)) W H a1 c1 L :=
  ⟨ownsRow_setCell_below ho (a := ⟨w.heap.size + 2, 2, none⟩) (by show w.heap.size + 2 < w.heap.size + 3; omega) _, World.rowIs.congr (h2.set 2 _) (tri_set _ _ _ _), h1.setOther (by show w.heap.size + 1 ≠ w.heap.size + 2; omega) _, h0.setOther (by show w.heap.size ≠ w.heap.size + 2; omega) _, hg.set (by show _ ≤ w.heap.size + 2; omega) _⟩
theorem St.sl {w u : World} {W H : Int} {a0 : Option Addr} {c0 : Nat} {L : List Int} (h : St w u W H a0 c0 L) (hb : ∀ x ∈ L, 0 ≤ x ∧ x ≤ 255) (hn : 1 ≤ L.length) : ∃ g, a0 = some ⟨g, 0, none⟩ ∧ OwnB u (w.heap.size + 3) g L.length c0 (at0 L) := by
  obtain ⟨g, c, e, -⟩ := RowL.form (w := u) (base := w.heap.size + 3) (v := .slice a0 L.length c0) (L := L) h.own hn
  simp only [Value.slice.injEq] at e
  obtain ⟨rfl, _, rfl⟩ := e
  exact ⟨g, rfl, RowL.ownB h.own hb⟩
/-- the cells of the three boxes -/
theorem St.cells {w u : World} {W H : Int} {a0 : Option Addr} {c0 : Nat} {L : List Int} (h : St w u W H a0 c0 L) :
    (u.cell? ⟨w.heap.size + 2, 0, none⟩ = some (.int .i64 W) ∧ u.cell? ⟨w.heap.size + 2, 1, none⟩ = some (.int .i64 H) ∧ u.cell? ⟨w.heap.size + 2, 2, none⟩ = some (.slice a0 L.length c0) ∧ u.frozen? ⟨w.heap.size + 2, 2, none⟩ = false) ∧
    (u.cell? ⟨w.heap.size + 1, 0, none⟩ = some (.int .i64 0) ∧ u.cell? ⟨w.heap.size + 1, 1, none⟩ = some (.int .i64 0) ∧ u.cell? ⟨w.heap.size + 1, 2, none⟩ = some (.slice none 0 0)) ∧
    (u.cell? ⟨w.heap.size, 0, none⟩ = some (.int .i64 0) ∧ u.cell? ⟨w.heap.size, 1, none⟩ = some (.int .i64 0) ∧ u.cell? ⟨w.heap.size, 2, none⟩ = some (.slice none 0 0)) ∧
    u.frozen? ⟨w.heap.size, 0, none⟩ = false ∧ u.frozen? ⟨w.heap.size, 1, none⟩ = false ∧ u.frozen? ⟨w.heap.size, 2, none⟩ = false ∧ w.heap.size + 2 < u.heap.size :=
  ⟨⟨h.r2.cell (i := 0) (by omega), h.r2.cell (i := 1) (by omega), h.r2.cell (i := 2) (by omega), h.r2.frozen 2⟩, ⟨h.r1.cell (i := 0) (by omega), h.r1.cell (i := 1) (by omega), h.r1.cell (i := 2) (by omega)⟩, ⟨h.r0.cell (i := 0) (by omega), h.r0.cell (i := 1) (by omega), h.r0.cell (i := 2) (by omega)⟩, h.r0.frozen 0, h.r0.frozen 1, h.r0.frozen 2, h.r2.lt⟩

theorem size_drewN (w : World) : ∀ q, (w.drewN q).heap.size = w.heap.size
  | 0 => rfl
  | q + 1 => size_drewN w q
theorem two_draws {w w4 : World} {q3 q4 : Nat} {x y : Obj} (h4 : w4 = (((w.alloc x).alloc y).drewN q3).drewN q4) : Gr ((w.alloc x).alloc y) w4 ∧ w4.heap.size = w.heap.size + 2 := by
  refine ⟨?_, ?_⟩
  · rw [h4]; exact ((Gr.refl _).drewN _).drewN _
  · rw [h4, size_drewN, size_drewN, World.size_alloc, World.size_alloc]
theorem two_rows {w w4 : World} (hg : Gr ((w.alloc (.cells #[.int .i64 0, .int .i64 0, .slice none 0 0] 31)).alloc (.cells #[.int .i64 0, .int .i64 0, .slice none 0 0] 31)) w4) :
    (w4.cell? ⟨w.heap.size + 1, 0, none⟩ = some (.int .i64 0) ∧ w4.cell? ⟨w.heap.size + 1, 1, none⟩ = some (.int .i64 0) ∧ w4.cell? ⟨w.heap.size + 1, 2, none⟩ = some (.slice none 0 0)) ∧
    (w4.cell? ⟨w.heap.size, 0, none⟩ = some (.int .i64 0) ∧ w4.cell? ⟨w.heap.size, 1, none⟩ = some (.int .i64 0) ∧ w4.cell? ⟨w.heap.size, 2, none⟩ = some (.slice none 0 0)) ∧
    w4.frozen? ⟨w.heap.size, 0, none⟩ = false ∧ w4.frozen? ⟨w.heap.size, 1, none⟩ = false ∧ w4.frozen? ⟨w.heap.size, 2, none⟩ = false := by
  have t0 := row_gr (tri_alloc w (.int .i64 0) (.int .i64 0) (.slice none 0 0) 31) (((Gr.refl _).alloc _).trans hg)
  have t1 := tri_alloc (w.alloc (.cells #[.int .i64 0, .int .i64 0, .slice none 0 0] 31)) (.int .i64 0) (.int .i64 0) (.slice none 0 0) 31
  rw [World.size_alloc] at t1
  replace t1 := row_gr t1 hg
  exact ⟨⟨t1.cell (i := 0) (by omega), t1.cell (i := 1) (by omega), t1.cell (i := 2) (by omega)⟩, ⟨t0.cell (i := 0) (by omega), t0.cell (i := 1) (by omega), t0.cell (i := 2) (by omega)⟩, t0.frozen 0, t0.frozen 1, t0.frozen 2⟩
theorem St.first4 {w w4 : World} {W H : Int} (hg : Gr ((w.alloc (Obj.cells #[Value.int .i64 0, .int .i64 0, .slice none 0 0] 31)).alloc (Obj.cells #[Value.int .i64 0, .int .i64 0, .slice none 0 0] 31)) w4) (hz : w4.heap.size = w.heap.size + 2) : St w (w4.alloc (.cells #[.int .i64 W, .int .i64 H, .slice none 0 0] 31)) W H none 0 [] := by
  have h := (St.first w W H)
  refine ⟨World.ownsRow_nil _ _ _ _, ?_, ?_, ?_, ((((Gr.refl w).alloc _).alloc _).trans hg).alloc _⟩
  · have := tri_alloc w4 (.int .i64 W) (.int .i64 H) (.slice none 0 0) 31
    rw [hz] at this
    exact this
  · have := tri_alloc (w.alloc (Obj.cells #[Value.int .i64 0, .int .i64 0, .slice none 0 0] 31)) (.int .i64 0) (.int .i64 0) (.slice none 0 0) 31
    rw [World.size_alloc] at this
    exact row_gr this (hg.alloc _)
  · exact row_gr (tri_alloc w (.int .i64 0) (.int .i64 0) (.slice none 0 0) 31) ((((Gr.refl _).alloc _).trans hg).alloc _)

set_option maxHeartbeats 1000000 in
theorem rget_arg (a : Option Addr) (B cap : Nat) (W H : Int) (w : World) (h : fitsB W = false ∨ fitsB H = false) :
    Calls Tryd.prog 44 #[.slice a B cap, .int .i64 W, .int .i64 H] w fun e w' => e = .returned (.tuple #[.agg #[.int .i64 0, .int .i64 0, .slice none 0 0], .int .i64 0, .int .i64 1]) ∧ Gr w w' := by
  cases hW : fitsB W
  · have h1 := (fitsB_false W).1 hW
    go_enter Tryd.func44, Tryd.ntmps44
    go_wp2_with (go_at_call 17; (first | refine (in_yes _ _ _ _ (by omega) (by omega)).mono ?_ | refine (in_no _ _ _ _ (by omega)).mono ?_); rintro e w' ⟨rfl, q, rfl⟩)
    exact bodyPost_ret (v := .tuple #[.agg #[.int .i64 0, .int .i64 0, .slice none 0 0], .int .i64 0, .int .i64 1]) (by simp [results, Tryd.results44, go_sem]) rfl ⟨rfl, (by repeat (first | exact Gr.refl _ | assumption | exact Dr.gr (by assumption) | refine Gr.alloc ?_ _ | refine Gr.drewN ?_ _ | refine Gr.drew ?_ | (refine Gr.set ?_ (by first | exact Nat.le_refl _ | exact Nat.le_succ _ | (show _ ≤ _; omega) | (simp only [World.size_alloc] at *; omega)) _) | refine Gr.trans ?_ (by assumption) | refine Gr.trans ?_ (Dr.gr (by assumption))))⟩
  · have h1 := (fitsB_iff W).1 hW
    have h2 : H < 1 ∨ 16 < H := by
      rcases h with h | h
      · rw [h] at hW; cases hW
      · have := (fitsB_false H).1 h; omega
    go_enter Tryd.func44, Tryd.ntmps44
    go_wp2_with (go_at_call 17; (first | refine (in_yes _ _ _ _ (by omega) (by omega)).mono ?_ | refine (in_no _ _ _ _ (by omega)).mono ?_); rintro e w' ⟨rfl, q, rfl⟩)
    exact bodyPost_ret (v := .tuple #[.agg #[.int .i64 0, .int .i64 0, .slice none 0 0], .int .i64 0, .int .i64 1]) (by simp [results, Tryd.results44, go_sem]) rfl ⟨rfl, (by repeat (first | exact Gr.refl _ | assumption | exact Dr.gr (by assumption) | refine Gr.alloc ?_ _ | refine Gr.drewN ?_ _ | refine Gr.drew ?_ | (refine Gr.set ?_ (by first | exact Nat.le_refl _ | exact Nat.le_succ _ | (show _ ≤ _; omega) | (simp only [World.size_alloc] at *; omega)) _) | refine Gr.trans ?_ (by assumption) | refine Gr.trans ?_ (Dr.gr (by assumption))))⟩

set_option maxHeartbeats 1000000 in
theorem rget_empty (a : Option Addr) (cap : Nat) (W H : Int) (w : World) (hW : 1 ≤ W ∧ W ≤ 16) (hH : 1 ≤ H ∧ H ≤ 16) :
    Calls Tryd.prog 44 #[.slice a 0 cap, .int .i64 W, .int .i64 H] w fun e w' => e = .returned (.tuple #[.agg #[.int .i64 0, .int .i64 0, .slice none 0 0], .int .i64 0, .int .i64 2]) ∧ Gr w w' := by
  go_enter Tryd.func44, Tryd.ntmps44
  go_wp2_with (go_at_call 17; (first | refine (in_yes _ _ _ _ (by omega) (by omega)).mono ?_ | refine (in_no _ _ _ _ (by omega)).mono ?_); rintro e w' ⟨rfl, q, rfl⟩)
  exact bodyPost_ret (v := .tuple #[.agg #[.int .i64 0, .int .i64 0, .slice none 0 0], .int .i64 0, .int .i64 2]) (by simp [results, Tryd.results44, go_sem]) rfl ⟨rfl, (by repeat (first | exact Gr.refl _ | assumption | exact Dr.gr (by assumption) | refine Gr.alloc ?_ _ | refine Gr.drewN ?_ _ | refine Gr.drew ?_ | (refine Gr.set ?_ (by first | exact Nat.le_refl _ | exact Nat.le_succ _ | (show _ ≤ _; omega) | (simp only [World.size_alloc] at *; omega)) _) | refine Gr.trans ?_ (by assumption) | refine Gr.trans ?_ (Dr.gr (by assumption))))⟩

set_option maxHeartbeats 1000000 in
theorem rget_other (a : Option Addr) (B cap : Nat) (W H : Int) (b : Nat → Int) (w : World) (h : Sl w a B b) (hB : 0 < B) (hW : 1 ≤ W ∧ W ≤ 16) (hH : 1 ≤ H ∧ H ≤ 16) (h0 : b 0 ≠ 0 ∧ b 0 ≠ 1 ∧ b 0 ≠ 2) :
    Calls Tryd.prog 44 #[.slice a B cap, .int .i64 W, .int .i64 H] w fun e w' => e = .returned (.tuple #[.agg #[.int .i64 0, .int .i64 0, .slice none 0 0], .int .i64 0, .int .i64 3]) ∧ Gr w w' := by
  obtain ⟨bb, oo, rfl, hbb, hcell⟩ := h.at hB
  have c0 := hcell 0 hB
  rw [Nat.add_zero] at c0
  have m := mul_bd (w := W) (h := H) (W := 16) (H := 16) (by omega) (by omega) (by omega) (by omega)
  have b0 : (b 0 == 0) = false := by simp [h0.1]
  have b1 : (b 0 == 1) = false := by simp [h0.2.1]
  have b2 : (b 0 == 2) = false := by simp [h0.2.2]
  have hBi : ((B : Int) == 0) = false := by rw [beq_eq_false_iff_ne]; omega
  clear hcell h0
  go_enter Tryd.func44, Tryd.ntmps44
  go_wp2_with fail
  refine (in_yes _ _ _ _ (by omega) (by omega)).mono ?_
  rintro e w3 ⟨rfl, q3, rfl⟩
  go_wp2_with fail
  refine (in_yes _ _ _ _ (by omega) (by omega)).mono ?_
  rintro e w4 ⟨rfl, q4, hq4⟩
  obtain ⟨hg4, hz4⟩ := two_draws hq4
  clear hq4
  replace c0 := cell_gr c0 ((((Gr.refl w).alloc _).alloc _).trans hg4)
  have hnb : ¬ bb = w.heap.size + 2 := by omega
  have hlb : bb < w.heap.size + 2 := by omega
  have HST := hide (St.first4 (W := W) (H := H) hg4 hz4)
  obtain ⟨⟨y0, y1, y2⟩, ⟨z0, z1, z2⟩, f0, f1, f2⟩ := two_rows hg4
  clear HST
  go_wp2
  exact bodyPost_ret (v := .tuple #[.agg #[.int .i64 0, .int .i64 0, .slice none 0 0], .int .i64 0, .int .i64 3]) (by simp [results, Tryd.results44, go_sem, hz4, z0, z1, z2]) rfl ⟨rfl, (gr_set3 ((((Gr.refl w).alloc _).alloc _).trans hg4) (Nat.le_refl _)).alloc _⟩

set_option maxHeartbeats 4000000 in
theorem rget_plain (a : Option Addr) (B cap : Nat) (W H : Int) (n : Nat) (b : Nat → Int) (w : World) (h : Sl w a B b) (hB : 0 < B) (hc : B ≤ cap) (hB7 : B ≤ 1000000) (hW : 1 ≤ W ∧ W ≤ 16) (hH : 1 ≤ H ∧ H ≤ 16) (hn : (n : Int) = W * H) (h0 : b 0 = 1) :
    Calls Tryd.prog 44 #[.slice a B cap, .int .i64 W, .int .i64 H] w fun e w' => (∃ v, e = .returned v ∧ Gets w' W H (getL n B b) v) ∧ Gr w w' := by
  obtain ⟨i0, hi, hz0, hz1, hz2⟩ := info_parts info_u8
  obtain ⟨bb, oo, rfl, hbb, hcell⟩ := h.at hB
  have c0' := hcell 0 hB
  rw [Nat.add_zero] at c0'
  have m := mul_bd (w := W) (h := H) (W := 16) (H := 16) (by omega) (by omega) (by omega) (by omega)
  have mc := Int.mul_le_mul hW.1 hH.1 (by omega) (by omega : (0 : Int) ≤ W)
  have n1 : 1 ≤ n := by omega
  have n2 : n ≤ 256 := by omega
  have hnw : W * H = (n : Int) := hn.symm
  have b0 : (b 0 == 0) = false := by simp [h0]
  have b1 : (b 0 == 1) = true := by simp [h0]
  have hBi : ((B : Int) == 0) = false := by rw [beq_eq_false_iff_ne]; omega
  by_cases hs : B < 1 + n
  · have HG : Hid (getL n B b = (2, [], 0)) := hide (by
      have R : readL n B b = (2, [], 0) := by unfold readL; rw [if_neg (by omega), if_neg (by omega), if_pos h0, if_pos hs]
      unfold getL; rw [R, if_pos (by simp)])
    have hs' : (B : Int) - 1 < n := by omega
    clear hcell h0 hn
    go_enter Tryd.func44, Tryd.ntmps44
    go_wp2_with fail
    refine (in_yes _ _ _ _ (by omega) (by omega)).mono ?_
    rintro e w3 ⟨rfl, q3, rfl⟩
    go_wp2_with fail
    refine (in_yes _ _ _ _ (by omega) (by omega)).mono ?_
    rintro e w4 ⟨rfl, q4, hq4⟩
    obtain ⟨hg4, hz4⟩ := two_draws hq4
    clear hq4
    replace c0' := cell_gr c0' ((((Gr.refl w).alloc _).alloc _).trans hg4)
    have hnb : ¬ bb = w.heap.size + 2 := by omega
    have hlb : bb < w.heap.size + 2 := by omega
    have HST := hide (St.first4 (W := W) (H := H) hg4 hz4)
    obtain ⟨⟨y0, y1, y2⟩, ⟨z0, z1, z2⟩, f0, f1, f2⟩ := two_rows hg4
    clear HST
    go_wp2
    exact bodyPost_ret (v := .tuple #[.agg #[.int .i64 0, .int .i64 0, .slice none 0 0], .int .i64 0, .int .i64 2]) (by simp [results, Tryd.results44, go_sem, hz4, z0, z1, z2]) rfl ⟨⟨_, rfl, by rw [HG.out]; exact .inr ⟨by simp, rfl⟩⟩, (gr_set3 ((((Gr.refl w).alloc _).alloc _).trans hg4) (Nat.le_refl _)).alloc _⟩
  obtain ⟨L, hL⟩ : ∃ L, L = lst n (fun i => b (1 + i)) := ⟨_, rfl⟩
  have hLn : L.length = n := by rw [hL, lst_len]
  have hLa : ∀ i, i < n → at0 L i = b (1 + i) := fun i hi => by rw [hL]; exact at0_lst hi
  have HT := hide (tail_eq (n := n) (B := B) (u := 1 + n) (b := b) (L := L) h.byte n1
    (fun e => by
      have e' : fullB n (fun i => b (1 + i)) = true := (fullB_iff _ _).2 fun i hi => by have := (fullB_iff _ _).1 e i hi; rwa [hLa i hi] at this
      unfold readL; rw [if_neg (by omega), if_neg (by omega), if_pos h0, if_neg hs, if_pos e', hL])
    (fun e => by
      have e' : ¬ fullB n (fun i => b (1 + i)) = true := fun q => by
        have : fullB n (at0 L) = true := (fullB_iff _ _).2 fun i hi => by rw [hLa i hi]; exact (fullB_iff _ _).1 q i hi
        rw [this] at e; cases e
      unfold readL; rw [if_neg (by omega), if_neg (by omega), if_pos h0, if_neg hs, if_neg e']))
  have hLb : ∀ x ∈ L, 0 ≤ x ∧ x ≤ 255 := by
    intro x hx
    rw [hL] at hx
    simp only [lst, List.mem_map, List.mem_range] at hx
    obtain ⟨i, hi, rfl⟩ := hx
    exact h.byte _ (by omega)
  have HCT : Hid (∀ u, Gr w u → ∀ j v, (L.map (Value.int .u8))[j]? = some v → u.cell? ((⟨bb, oo + 1, none⟩ : Addr).add j) = some v) := hide (by
    have hm : L.map (Value.int .u8) = cel .u8 n (fun i => b (1 + i)) := by rw [hL]; simp [lst, cel]
    rw [hm]
    exact fun u hu => cel_at (fun i hi => by rw [Nat.add_assoc]; exact hcell (1 + i) (by omega)) hbb hu)
  have HLB := hide hLb
  clear hL hLa hLb
  subst hLn
  obtain ⟨u, hu⟩ : ∃ u, u = 1 + L.length := ⟨_, rfl⟩
  rw [← hu] at HT
  have huB : u ≤ B := by omega
  have hui : 1 + (L.length : Int) = u := by omega
  have hs' : ¬ (B : Int) - 1 < L.length := by omega
  have hne : ¬ cap = 1 := by omega
  have hs1 : (u : Int) ≤ cap := by omega
  have hs2 : (1 : Int) ≤ (u : Int) := by omega
  have huw : IntKind.i64.wrap (u : Int) = u := wrapI (by omega)
  have hs5 : 0 ≤ (u : Int) := by omega
  have hs6 : u ≤ cap := by omega
  have hs7 : 1 ≤ u := by omega
  have hs3 : (u : Int) - 1 = L.length := by omega
  have hs4 : u - 1 = L.length := by omega
  clear hcell h0 hn hu
  go_enter Tryd.func44, Tryd.ntmps44
  go_wp2_with fail
  refine (in_yes _ _ _ _ (by omega) (by omega)).mono ?_
  rintro e w3 ⟨rfl, q3, rfl⟩
  go_wp2_with fail
  refine (in_yes _ _ _ _ (by omega) (by omega)).mono ?_
  rintro e w4 ⟨rfl, q4, hq4⟩
  obtain ⟨hg4, hz4⟩ := two_draws hq4
  clear hq4
  replace c0' := cell_gr c0' ((((Gr.refl w).alloc _).alloc _).trans hg4)
  have hnb : ¬ bb = w.heap.size + 2 := by omega
  have hlb : bb < w.heap.size + 2 := by omega
  have HST := hide (St.first4 (W := W) (H := H) hg4 hz4)
  obtain ⟨⟨y0, y1, y2⟩, ⟨z0, z1, z2⟩, f0, f1, f2⟩ := two_rows hg4
  clear z0 z1 z2 f0 f1 f2 y0 y1 y2
  go_wp2_with fail
  have hst0 := HST.out
  have hwu : Gr w (w4.alloc (.cells #[.int .i64 W, .int .i64 H, .slice none 0 0] 31)) := hst0.gr
  clear HST
  generalize (w4.alloc (.cells #[.int .i64 W, .int .i64 H, .slice none 0 0] 31)) = u1 at *
  obtain ⟨⟨x0, x1, x2, xf⟩, -, -, -, -, -, xl⟩ := hst0.cells
  have HS0 := hide hst0
  clear hst0 c0'
  go_region_law (refine step_append_own rfl (.tmp 71) (.tmp 75) 22 rfl (w.heap.size + 3) 5 i0 (.int .u8 0) 1 1 Tryd.underlying22 hi hz0 hz1 hz2 rfl (by decide) (.slice none 0 0) 0 [] (by simp [Act.eval]) (World.ownsRow_nil _ _ _ _) ⟨bb, oo + 1, none⟩ L.length (cap - 1) (L.map (Value.int .u8)) (by simp [Act.eval]) (by simp) (HCT.out _ (by (repeat (first | (with_reducible exact Gr.refl _) | (with_reducible assumption) | (with_reducible refine Gr.alloc ?_ _) | (with_reducible refine Gr.drew ?_) | (with_reducible refine Gr.set ?_ (by dsimp only; omega) _) | (with_reducible refine Gr.trans ?_ (by with_reducible assumption)))); first | done | fail)) (map_one _ _) (by unfold maxLen; omega) (by omega) (by first | exact xl | exact Nat.succ_le_of_lt xl) ?_; intro v' w5 hown5 hgrow5; obtain ⟨a1, c1, rfl, o1, s2, s1, s0, g5⟩ := HS0.out.step (M := L) (by (repeat (first | (with_reducible exact Gr.refl _) | (with_reducible assumption) | (with_reducible refine Gr.alloc ?_ _) | (with_reducible refine Gr.drew ?_) | (with_reducible refine Gr.set ?_ (by dsimp only; omega) _) | (with_reducible refine Gr.trans ?_ (by with_reducible assumption)))); first | done | fail) rfl hown5 hgrow5; have d3 := s2.cell (i := 2) (by omega); rw [tri_2] at d3; have g3 := s2.frozen 2; have HN := hide (St.next o1 s2 s1 s0 g5); clear hown5 hgrow5 o1 s2 s1 s0)
  have hst : St w (w5.setCell ⟨w.heap.size + 2, 2, none⟩ (.slice a1 L.length c1)) W H a1 c1 L := HN.out
  have hLb := HLB.out
  clear HN HLB HS0 HCT d3 g3 g5 x0 x1 x2 xf xl hwu
  generalize (w5.setCell ⟨w.heap.size + 2, 2, none⟩ (.slice a1 L.length c1)) = u5 at *
  obtain ⟨g, rfl, hob⟩ := hst.sl hLb (by omega)
  obtain ⟨p1, p2, -, -, hsl⟩ := hob.sl
  obtain ⟨⟨x0, x1, x2, -⟩, ⟨y0, y1, y2⟩, ⟨z0, z1, z2⟩, f0, f1, f2, hlt⟩ := hst.cells
  clear hob
  cases hfu : fullB L.length (at0 L)
  · have HG := hide (HT.out.1 hfu)
    go_wp2_with (go_at_call 35; refine (full_any _ _ _ (at0 L) _ hsl (by unfold maxLen; omega)).mono ?_; rintro e w6 ⟨rfl, hw6⟩; subst hw6; rw [hfu])
    exact bodyPost_ret (v := .tuple #[.agg #[.int .i64 0, .int .i64 0, .slice none 0 0], .int .i64 0, .int .i64 3]) (by simp [results, Tryd.results44, go_sem, z0, z1, z2]) rfl ⟨⟨_, rfl, by rw [HG.out]; exact .inr ⟨by simp, rfl⟩⟩, gr_set3 (by first | exact hst.gr | exact hst.gr.trans hg7) (Nat.le_refl _)⟩
  · cases hsm : sameB (putL L.length (at0 L)).length (at0 (putL L.length (at0 L))) u b
    · have HG := hide (HT.out.2.1 hfu hsm)
      clear x0 x1 y0 y1 y2 z0 z1 z2 f0 f1 f2 hlt
      obtain ⟨⟨x0, x1, -, -⟩, -⟩ := hst.cells
      go_wp2_with (first | (go_at_call 35; refine (full_any _ _ _ (at0 L) _ hsl (by unfold maxLen; omega)).mono ?_; rintro e w6 ⟨rfl, hw6⟩; subst hw6; rw [hfu]) | (go_at_call 40; refine (rput_any _ _ _ _ _ (at0 L) _ hsl (by omega) (by omega)).mono ?_; rintro e w7 ⟨⟨g7, k7, rfl, ho7⟩, hg7⟩; have hs7 := hst.of hg7; obtain ⟨⟨x0, x1, x2, -⟩, ⟨y0, y1, y2⟩, ⟨z0, z1, z2⟩, f0, f1, f2, hlt⟩ := hs7.cells; have sl7 := ho7.sl.2.2.2.2; have HS7 := hide hs7; clear ho7 hs7) | (go_at_call 19; refine (rbytes_any _ _ _ _ _ _ (at0 (putL L.length (at0 L))) b _ sl7 (((h.take huB).gr hst.gr).gr hg7)).mono ?_; rintro e w8 ⟨rfl, hw8⟩; subst hw8; rw [hsm]))
      exact bodyPost_ret (v := .tuple #[.agg #[.int .i64 0, .int .i64 0, .slice none 0 0], .int .i64 0, .int .i64 3]) (by simp [results, Tryd.results44, go_sem, z0, z1, z2]) rfl ⟨⟨_, rfl, by rw [HG.out]; exact .inr ⟨by simp, rfl⟩⟩, gr_set3 (hst.gr.trans hg7) (Nat.le_refl _)⟩
    · have HG := hide (HT.out.2.2 hfu hsm)
      clear x0 x1 y0 y1 y2 z0 z1 z2 f0 f1 f2 hlt
      obtain ⟨⟨x0, x1, -, -⟩, -⟩ := hst.cells
      go_wp2_with (first | (go_at_call 35; refine (full_any _ _ _ (at0 L) _ hsl (by unfold maxLen; omega)).mono ?_; rintro e w6 ⟨rfl, hw6⟩; subst hw6; rw [hfu]) | (go_at_call 40; refine (rput_any _ _ _ _ _ (at0 L) _ hsl (by omega) (by omega)).mono ?_; rintro e w7 ⟨⟨g7, k7, rfl, ho7⟩, hg7⟩; have hs7 := hst.of hg7; obtain ⟨⟨x0, x1, x2, -⟩, ⟨y0, y1, y2⟩, ⟨z0, z1, z2⟩, f0, f1, f2, hlt⟩ := hs7.cells; have sl7 := ho7.sl.2.2.2.2; have HS7 := hide hs7; clear ho7 hs7) | (go_at_call 19; refine (rbytes_any _ _ _ _ _ _ (at0 (putL L.length (at0 L))) b _ sl7 (((h.take huB).gr hst.gr).gr hg7)).mono ?_; rintro e w8 ⟨rfl, hw8⟩; subst hw8; rw [hsm]))
      have hap := sl_apart (hsl.gr hg7) (by omega) z0
      exact bodyPost_ret (v := .tuple #[.agg #[.int .i64 W, .int .i64 H, .slice (some ⟨g, 0, none⟩) L.length c1], .int .i64 u, .int .i64 0]) (by simp [results, Tryd.results44, go_sem, z0, z1, z2]) rfl ⟨⟨_, rfl, by
        rw [HG.out]
        exact .inl ⟨rfl, g, c1, rfl, p1, p2, (((hsl.gr hg7).setF (p := ⟨w.heap.size, 0, none⟩) hap).setF (p := ⟨w.heap.size, 1, none⟩) hap).setF (p := ⟨w.heap.size, 2, none⟩) hap⟩⟩, gr_set3 (hst.gr.trans hg7) (Nat.le_refl _)⟩

set_option maxHeartbeats 4000000 in
theorem rget_alike (a : Option Addr) (B cap : Nat) (W H : Int) (n : Nat) (b : Nat → Int) (w : World) (h : Sl w a B b) (hB : 0 < B) (hc : B ≤ cap) (hW : 1 ≤ W ∧ W ≤ 16) (hH : 1 ≤ H ∧ H ≤ 16) (hn : (n : Int) = W * H) (h0 : b 0 = 0) :
    Calls Tryd.prog 44 #[.slice a B cap, .int .i64 W, .int .i64 H] w fun e w' => (∃ v, e = .returned v ∧ Gets w' W H (getL n B b) v) ∧ Gr w w' := by
  obtain ⟨i0, hi, hz0, hz1, hz2⟩ := info_parts info_u8
  obtain ⟨bb, oo, rfl, hbb, hcell⟩ := h.at hB
  have c0' := hcell 0 hB
  rw [Nat.add_zero] at c0'
  have m := mul_bd (w := W) (h := H) (W := 16) (H := 16) (by omega) (by omega) (by omega) (by omega)
  have mc := Int.mul_le_mul hW.1 hH.1 (by omega) (by omega : (0 : Int) ≤ W)
  have n1 : 1 ≤ n := by omega
  have n2 : n ≤ 256 := by omega
  have hnw : W * H = (n : Int) := hn.symm
  have b0 : (b 0 == 0) = true := by simp [h0]
  have hBi : ((B : Int) == 0) = false := by rw [beq_eq_false_iff_ne]; omega
  by_cases hs : B < 2
  · have HG : Hid (getL n B b = (2, [], 0)) := hide (by
      have R : readL n B b = (2, [], 0) := by unfold readL; rw [if_neg (by omega), if_pos h0, if_pos hs]
      unfold getL; rw [R, if_pos (by simp)])
    have hs' : (B : Int) < 2 := by omega
    clear hcell h0 hn
    go_enter Tryd.func44, Tryd.ntmps44
    go_wp2_with fail
    refine (in_yes _ _ _ _ (by omega) (by omega)).mono ?_
    rintro e w3 ⟨rfl, q3, rfl⟩
    go_wp2_with fail
    refine (in_yes _ _ _ _ (by omega) (by omega)).mono ?_
    rintro e w4 ⟨rfl, q4, hq4⟩
    obtain ⟨hg4, hz4⟩ := two_draws hq4
    clear hq4
    replace c0' := cell_gr c0' ((((Gr.refl w).alloc _).alloc _).trans hg4)
    have hnb : ¬ bb = w.heap.size + 2 := by omega
    have hlb : bb < w.heap.size + 2 := by omega
    have HST := hide (St.first4 (W := W) (H := H) hg4 hz4)
    obtain ⟨⟨y0, y1, y2⟩, ⟨z0, z1, z2⟩, f0, f1, f2⟩ := two_rows hg4
    clear HST
    go_wp2
    exact bodyPost_ret (v := .tuple #[.agg #[.int .i64 0, .int .i64 0, .slice none 0 0], .int .i64 0, .int .i64 2]) (by simp [results, Tryd.results44, go_sem, hz4, z0, z1, z2]) rfl ⟨⟨_, rfl, by rw [HG.out]; exact .inr ⟨by simp, rfl⟩⟩, (gr_set3 ((((Gr.refl w).alloc _).alloc _).trans hg4) (Nat.le_refl _)).alloc _⟩
  have c1' := hcell 1 (by omega)
  have hxb := h.byte 1 (by omega)
  obtain ⟨x, hx⟩ : ∃ x, x = b 1 := ⟨_, rfl⟩
  have hT := tail_eq (n := n) (B := B) (u := 2) (b := b) (L := List.replicate n x) h.byte n1
    (fun e => by
      have := (fullB_iff _ _).1 e 0 (by omega)
      rw [at0_rep (by omega), hx] at this
      unfold readL; rw [if_neg (by omega), if_pos h0, if_neg hs, if_neg this, hx])
    (fun e => by
      obtain ⟨i, hi, hi0⟩ := (fullB_false _ _).1 e
      rw [at0_rep hi, hx] at hi0
      unfold readL; rw [if_neg (by omega), if_pos h0, if_neg hs, if_pos hi0])
  have HT := hide hT
  rw [← hx] at c1' hxb
  have HC1 := hide c1'
  clear c1'
  have huB : 2 ≤ B := by omega
  have hs' : ¬ (B : Int) < 2 := by omega
  have hs1 : (1 : Int) < B := by omega
  have hs2 : (2 : Int) ≤ cap := by omega
  have hs3 : 2 ≤ cap := by omega
  clear hcell h0 hn hx hT
  go_enter Tryd.func44, Tryd.ntmps44
  go_wp2_with fail
  refine (in_yes _ _ _ _ (by omega) (by omega)).mono ?_
  rintro e w3 ⟨rfl, q3, rfl⟩
  go_wp2_with fail
  refine (in_yes _ _ _ _ (by omega) (by omega)).mono ?_
  rintro e w4 ⟨rfl, q4, hq4⟩
  obtain ⟨hg4, hz4⟩ := two_draws hq4
  clear hq4
  replace c0' := cell_gr c0' ((((Gr.refl w).alloc _).alloc _).trans hg4)
  have hnb : ¬ bb = w.heap.size + 2 := by omega
  have hlb : bb < w.heap.size + 2 := by omega
  have HST := hide (St.first4 (W := W) (H := H) hg4 hz4)
  obtain ⟨⟨y0, y1, y2⟩, ⟨z0, z1, z2⟩, f0, f1, f2⟩ := two_rows hg4
  clear z0 z1 z2 f0 f1 f2 y0 y1 y2
  go_wp2_with fail
  have hst0 := HST.out
  clear HST c0'
  generalize (w4.alloc (.cells #[.int .i64 W, .int .i64 H, .slice none 0 0] 31)) = u1 at *
  go_loopw [13] (fun s u => ∃ (k : Nat) (a0 : Option Addr) (c0 : Nat), k ≤ n ∧ s = .int .i64 k ∧ St w u W H a0 c0 (List.replicate k x) ) (fun s _ => n - (intOf s).toNat)
  case atStart => exact ⟨0, none, 0, Nat.zero_le _, rfl, hst0⟩
  case round =>
    obtain ⟨k, a0, c0, hk, rfl, hst⟩ := hrel
    clear hst0
    by_cases hlt : k < n
    · obtain ⟨⟨x0, x1, x2, xf⟩, -, -, -, -, -, xl⟩ := hst.cells
      have c1' := cell_gr HC1.out hst.gr
      have hbr : bb < wr.heap.size := World.block_lt_of_cell? wr ⟨bb, oo + 1, none⟩ c1'
      have HS0 := hide hst
      clear hst
      rw [List.length_replicate] at x2
      go_wp2
      go_region_law (refine step_append_own rfl (.tmp 55) (.tmp 59) 22 rfl (w.heap.size + 3) 5 i0 (.int .u8 0) 1 1 Tryd.underlying22 hi hz0 hz1 hz2 rfl (by decide) (.slice a0 (List.replicate k x).length c0) (List.replicate k x).length ((List.replicate k x).map (Value.int .u8)) (by simp [Act.eval]) (own_gr HS0.out.own (by (repeat (first | (with_reducible exact Gr.refl _) | (with_reducible assumption) | (with_reducible refine Gr.alloc ?_ _) | (with_reducible refine Gr.drew ?_) | (with_reducible refine Gr.set ?_ (by dsimp only; omega) _) | (with_reducible refine Gr.trans ?_ (by with_reducible assumption)))); first | done | fail)) ⟨wr.heap.size, 0, none⟩ 1 1 ([x].map (Value.int .u8)) (by simp [Act.eval]) rfl (alloc_one wr _ _) (map_one _ _) (by rw [List.length_replicate]; unfold maxLen; omega) (by rw [List.length_replicate]; omega) (Nat.le_trans (show w.heap.size + 3 ≤ wr.heap.size + 1 by omega) (Nat.le_of_eq (World.size_alloc wr _).symm)) ?_; intro v' w5 hown5 hgrow5; obtain ⟨a1, c1, rfl, o1, s2, s1, s0, g5⟩ := HS0.out.step (M := [x]) (by (repeat (first | (with_reducible exact Gr.refl _) | (with_reducible assumption) | (with_reducible refine Gr.alloc ?_ _) | (with_reducible refine Gr.drew ?_) | (with_reducible refine Gr.set ?_ (by dsimp only; omega) _) | (with_reducible refine Gr.trans ?_ (by with_reducible assumption)))); first | done | fail) rfl hown5 hgrow5; have d3 := s2.cell (i := 2) (by omega); rw [tri_2] at d3; have g3 := s2.frozen 2; have HN := hide (St.next o1 s2 s1 s0 g5); clear hown5 hgrow5 o1 s2 s1 s0)
      all_goals
        go_wp2
        go_roundw
        case rel =>
          have e := HN.out
          rw [← List.replicate_succ'] at e
          refine ⟨k + 1, a1, c1, by omega, by go_num, ?_⟩
          simpa using e
        case measure => simp [intOf]; omega
    · have hkn : n = k := by omega
      subst hkn
      have hLb : ∀ z ∈ List.replicate n x, 0 ≤ z ∧ z ≤ 255 := fun z hz => by rw [(List.mem_replicate.1 hz).2]; exact hxb
      have hLn : (List.replicate n x).length = n := List.length_replicate
      generalize List.replicate n x = L at *
      subst hLn
      clear HC1
      generalize wr = u5 at *
      obtain ⟨g, rfl, hob⟩ := hst.sl hLb (by omega)
      obtain ⟨p1, p2, -, -, hsl⟩ := hob.sl
      obtain ⟨⟨x0, x1, x2, -⟩, ⟨y0, y1, y2⟩, ⟨z0, z1, z2⟩, f0, f1, f2, hlt⟩ := hst.cells
      clear hob
      cases hfu : fullB L.length (at0 L)
      · have HG := hide (HT.out.1 hfu)
        go_wp2_with (go_at_call 35; refine (full_any _ _ _ (at0 L) _ hsl (by unfold maxLen; omega)).mono ?_; rintro e w6 ⟨rfl, hw6⟩; subst hw6; rw [hfu])
        exact bodyPost_ret (v := .tuple #[.agg #[.int .i64 0, .int .i64 0, .slice none 0 0], .int .i64 0, .int .i64 3]) (by simp [results, Tryd.results44, go_sem, z0, z1, z2]) rfl ⟨⟨_, rfl, by rw [HG.out]; exact .inr ⟨by simp, rfl⟩⟩, gr_set3 (by first | exact hst.gr | exact hst.gr.trans hg7) (Nat.le_refl _)⟩
      · cases hsm : sameB (putL L.length (at0 L)).length (at0 (putL L.length (at0 L))) 2 b
        · have HG := hide (HT.out.2.1 hfu hsm)
          clear x0 x1 y0 y1 y2 z0 z1 z2 f0 f1 f2 hlt
          obtain ⟨⟨x0, x1, -, -⟩, -⟩ := hst.cells
          go_wp2_with (first | (go_at_call 35; refine (full_any _ _ _ (at0 L) _ hsl (by unfold maxLen; omega)).mono ?_; rintro e w6 ⟨rfl, hw6⟩; subst hw6; rw [hfu]) | (go_at_call 40; refine (rput_any _ _ _ _ _ (at0 L) _ hsl (by omega) (by omega)).mono ?_; rintro e w7 ⟨⟨g7, k7, rfl, ho7⟩, hg7⟩; have hs7 := hst.of hg7; obtain ⟨⟨x0, x1, x2, -⟩, ⟨y0, y1, y2⟩, ⟨z0, z1, z2⟩, f0, f1, f2, hlt⟩ := hs7.cells; have sl7 := ho7.sl.2.2.2.2; have HS7 := hide hs7; clear ho7 hs7) | (go_at_call 19; refine (rbytes_any _ _ _ _ _ _ (at0 (putL L.length (at0 L))) b _ sl7 (((h.take huB).gr hst.gr).gr hg7)).mono ?_; rintro e w8 ⟨rfl, hw8⟩; subst hw8; rw [hsm]))
          exact bodyPost_ret (v := .tuple #[.agg #[.int .i64 0, .int .i64 0, .slice none 0 0], .int .i64 0, .int .i64 3]) (by simp [results, Tryd.results44, go_sem, z0, z1, z2]) rfl ⟨⟨_, rfl, by rw [HG.out]; exact .inr ⟨by simp, rfl⟩⟩, gr_set3 (hst.gr.trans hg7) (Nat.le_refl _)⟩
        · have HG := hide (HT.out.2.2 hfu hsm)
          clear x0 x1 y0 y1 y2 z0 z1 z2 f0 f1 f2 hlt
          obtain ⟨⟨x0, x1, -, -⟩, -⟩ := hst.cells
          go_wp2_with (first | (go_at_call 35; refine (full_any _ _ _ (at0 L) _ hsl (by unfold maxLen; omega)).mono ?_; rintro e w6 ⟨rfl, hw6⟩; subst hw6; rw [hfu]) | (go_at_call 40; refine (rput_any _ _ _ _ _ (at0 L) _ hsl (by omega) (by omega)).mono ?_; rintro e w7 ⟨⟨g7, k7, rfl, ho7⟩, hg7⟩; have hs7 := hst.of hg7; obtain ⟨⟨x0, x1, x2, -⟩, ⟨y0, y1, y2⟩, ⟨z0, z1, z2⟩, f0, f1, f2, hlt⟩ := hs7.cells; have sl7 := ho7.sl.2.2.2.2; have HS7 := hide hs7; clear ho7 hs7) | (go_at_call 19; refine (rbytes_any _ _ _ _ _ _ (at0 (putL L.length (at0 L))) b _ sl7 (((h.take huB).gr hst.gr).gr hg7)).mono ?_; rintro e w8 ⟨rfl, hw8⟩; subst hw8; rw [hsm]))
          have hap := sl_apart (hsl.gr hg7) (by omega) z0
          exact bodyPost_ret (v := .tuple #[.agg #[.int .i64 W, .int .i64 H, .slice (some ⟨g, 0, none⟩) L.length c0], .int .i64 2, .int .i64 0]) (by simp [results, Tryd.results44, go_sem, z0, z1, z2]) rfl ⟨⟨_, rfl, by
            rw [HG.out]
            exact .inl ⟨rfl, g, c0, rfl, p1, p2, (((hsl.gr hg7).setF (p := ⟨w.heap.size, 0, none⟩) hap).setF (p := ⟨w.heap.size, 1, none⟩) hap).setF (p := ⟨w.heap.size, 2, none⟩) hap⟩⟩, gr_set3 (hst.gr.trans hg7) (Nat.le_refl _)⟩

theorem getL_dec {n B : Nat} {b : Nat → Int} {k : Int} (hB : B ≠ 0) (h0 : b 0 = 2) (hk : k ≠ 0) (h : decR n B b 1 [] = (k, [], 0)) : getL n B b = (k, [], 0) := by
  have R : readL n B b = (k, [], 0) := by unfold readL; rw [if_neg hB, if_neg (by omega), if_neg (by omega), if_pos h0, h]
  unfold getL
  rw [R, if_pos hk]
theorem tail_dec {n B u : Nat} {b : Nat → Int} {L : List Int} (hb : ∀ i, i < B → 0 ≤ b i ∧ b i ≤ 255) (hn : 1 ≤ n) (hB : B ≠ 0) (h0 : b 0 = 2) (h : decR n B b 1 [] = (0, L, u)) :
    u ≤ B ∧ (fullB n (at0 L) = false → getL n B b = (3, [], 0)) ∧ (fullB n (at0 L) = true → sameB (putL n (at0 L)).length (at0 (putL n (at0 L))) u b = false → getL n B b = (3, [], 0)) ∧ (fullB n (at0 L) = true → sameB (putL n (at0 L)).length (at0 (putL n (at0 L))) u b = true → getL n B b = (0, L, u)) := by
  have R : readL n B b = (0, L, u) := by unfold readL; rw [if_neg hB, if_neg (by omega), if_neg (by omega), if_pos h0, h]
  obtain ⟨r1, r2, r3, -⟩ := readL_ok hb hn R
  refine ⟨r3, tail_eq hb hn (fun _ => R) (fun e => ?_)⟩
  obtain ⟨i, hi, hi0⟩ := (fullB_false _ _).1 e
  unfold at0 at hi0
  rw [List.getD_eq_getElem?_getD, List.getElem?_eq_getElem (by omega)] at hi0
  have := r2 (L[i]'(by omega)) (List.getElem_mem _)
  simp only [Option.getD_some] at hi0
  omega

set_option maxHeartbeats 6000000 in
theorem rget_runs (a : Option Addr) (B cap : Nat) (W H : Int) (n : Nat) (b : Nat → Int) (w : World) (h : Sl w a B b) (hB : 0 < B) (hc : B ≤ cap) (hB7 : B ≤ 1000000) (hW : 1 ≤ W ∧ W ≤ 16) (hH : 1 ≤ H ∧ H ≤ 16) (hn : (n : Int) = W * H) (h0 : b 0 = 2) :
    Calls Tryd.prog 44 #[.slice a B cap, .int .i64 W, .int .i64 H] w fun e w' => (∃ v, e = .returned v ∧ Gets w' W H (getL n B b) v) ∧ Gr w w' := by
  obtain ⟨i0, hi, hz0, hz1, hz2⟩ := info_parts info_u8
  obtain ⟨bb, oo, rfl, hbb, hcell⟩ := h.at hB
  have c0' := hcell 0 hB
  rw [Nat.add_zero] at c0'
  have m := mul_bd (w := W) (h := H) (W := 16) (H := 16) (by omega) (by omega) (by omega) (by omega)
  have mc := Int.mul_le_mul hW.1 hH.1 (by omega) (by omega : (0 : Int) ≤ W)
  have n1 : 1 ≤ n := by omega
  have n2 : n ≤ 256 := by omega
  have hnw : W * H = (n : Int) := hn.symm
  have b0 : (b 0 == 0) = false := by simp [h0]
  have b1 : (b 0 == 1) = false := by simp [h0]
  have b2 : (b 0 == 2) = true := by simp [h0]
  have hBi : ((B : Int) == 0) = false := by rw [beq_eq_false_iff_ne]; omega
  have HC := hide hcell
  have hbyte := hide h.byte
  have HTD := hide (fun L u => tail_dec (n := n) (u := u) (L := L) h.byte n1 (by omega) h0)
  have HGD := hide (fun k => getL_dec (n := n) (k := k) (show B ≠ 0 by omega) h0)
  clear hcell h0 hn
  go_enter Tryd.func44, Tryd.ntmps44
  go_wp2_with fail
  refine (in_yes _ _ _ _ (by omega) (by omega)).mono ?_
  rintro e w3 ⟨rfl, q3, rfl⟩
  go_wp2_with fail
  refine (in_yes _ _ _ _ (by omega) (by omega)).mono ?_
  rintro e w4 ⟨rfl, q4, hq4⟩
  obtain ⟨hg4, hz4⟩ := two_draws hq4
  clear hq4
  replace c0' := cell_gr c0' ((((Gr.refl w).alloc _).alloc _).trans hg4)
  have hnb : ¬ bb = w.heap.size + 2 := by omega
  have hlb : bb < w.heap.size + 2 := by omega
  have HST := hide (St.first4 (W := W) (H := H) hg4 hz4)
  obtain ⟨⟨y0, y1, y2⟩, ⟨z0, z1, z2⟩, f0, f1, f2⟩ := two_rows hg4
  clear z0 z1 z2 f0 f1 f2 y0 y1 y2
  go_wp2_with fail
  have hst0 := HST.out
  clear HST c0'
  generalize (w4.alloc (.cells #[.int .i64 W, .int .i64 H, .slice none 0 0] 31)) = u1 at *
  go_loopw [12] (fun s u => ∃ (p : Nat) (acc : List Int) (a0 : Option Addr) (c0 : Nat), 1 ≤ p ∧ p ≤ max B 1 ∧ s = .int .i64 p ∧ St w u W H a0 c0 acc ∧ acc.length ≤ n ∧ (∀ x ∈ acc, 0 ≤ x ∧ x ≤ 255) ∧ decR n B b 1 [] = decR n B b p acc) (fun s _ => B + 2 - (intOf s).toNat)
  case atStart => exact ⟨1, [], none, 0, Nat.le_refl _, by omega, rfl, hst0, Nat.zero_le _, by simp, rfl⟩
  case round =>
    obtain ⟨p, acc, a0, c0, hp, hpB, rfl, hst, hacc, hab, hdec⟩ := hrel
    clear hst0
    by_cases hend : n ≤ acc.length
    · obtain ⟨hu, hT⟩ := HTD.out _ _ (hdec.trans (decR_end hend))
      have HT := hide hT
      have huB := hu
      have hLb := hab
      have hLn : acc.length = n := by omega
      have hs1 : (p : Int) ≤ cap := by omega
      clear hdec hT hab HC hbyte HTD HGD hu
      subst hLn
      generalize wr = u5 at *
      obtain ⟨g, rfl, hob⟩ := hst.sl hLb (by omega)
      obtain ⟨p1, p2, -, -, hsl⟩ := hob.sl
      obtain ⟨⟨x0, x1, x2, -⟩, ⟨y0, y1, y2⟩, ⟨z0, z1, z2⟩, f0, f1, f2, hlt⟩ := hst.cells
      clear hob
      cases hfu : fullB acc.length (at0 acc)
      · have HG := hide (HT.out.1 hfu)
        go_wp2_with (go_at_call 35; refine (full_any _ _ _ (at0 acc) _ hsl (by unfold maxLen; omega)).mono ?_; rintro e w6 ⟨rfl, hw6⟩; subst hw6; rw [hfu])
        exact bodyPost_ret (v := .tuple #[.agg #[.int .i64 0, .int .i64 0, .slice none 0 0], .int .i64 0, .int .i64 3]) (by simp [results, Tryd.results44, go_sem, z0, z1, z2]) rfl ⟨⟨_, rfl, by rw [HG.out]; exact .inr ⟨by simp, rfl⟩⟩, gr_set3 (by first | exact hst.gr | exact hst.gr.trans hg7) (Nat.le_refl _)⟩
      · cases hsm : sameB (putL acc.length (at0 acc)).length (at0 (putL acc.length (at0 acc))) p b
        · have HG := hide (HT.out.2.1 hfu hsm)
          clear x0 x1 y0 y1 y2 z0 z1 z2 f0 f1 f2 hlt
          obtain ⟨⟨x0, x1, -, -⟩, -⟩ := hst.cells
          go_wp2_with (first | (go_at_call 35; refine (full_any _ _ _ (at0 acc) _ hsl (by unfold maxLen; omega)).mono ?_; rintro e w6 ⟨rfl, hw6⟩; subst hw6; rw [hfu]) | (go_at_call 40; refine (rput_any _ _ _ _ _ (at0 acc) _ hsl (by omega) (by omega)).mono ?_; rintro e w7 ⟨⟨g7, k7, rfl, ho7⟩, hg7⟩; have hs7 := hst.of hg7; obtain ⟨⟨x0, x1, x2, -⟩, ⟨y0, y1, y2⟩, ⟨z0, z1, z2⟩, f0, f1, f2, hlt⟩ := hs7.cells; have sl7 := ho7.sl.2.2.2.2; have HS7 := hide hs7; clear ho7 hs7) | (go_at_call 19; refine (rbytes_any _ _ _ _ _ _ (at0 (putL acc.length (at0 acc))) b _ sl7 (((h.take huB).gr hst.gr).gr hg7)).mono ?_; rintro e w8 ⟨rfl, hw8⟩; subst hw8; rw [hsm]))
          exact bodyPost_ret (v := .tuple #[.agg #[.int .i64 0, .int .i64 0, .slice none 0 0], .int .i64 0, .int .i64 3]) (by simp [results, Tryd.results44, go_sem, z0, z1, z2]) rfl ⟨⟨_, rfl, by rw [HG.out]; exact .inr ⟨by simp, rfl⟩⟩, gr_set3 (hst.gr.trans hg7) (Nat.le_refl _)⟩
        · have HG := hide (HT.out.2.2 hfu hsm)
          clear x0 x1 y0 y1 y2 z0 z1 z2 f0 f1 f2 hlt
          obtain ⟨⟨x0, x1, -, -⟩, -⟩ := hst.cells
          go_wp2_with (first | (go_at_call 35; refine (full_any _ _ _ (at0 acc) _ hsl (by unfold maxLen; omega)).mono ?_; rintro e w6 ⟨rfl, hw6⟩; subst hw6; rw [hfu]) | (go_at_call 40; refine (rput_any _ _ _ _ _ (at0 acc) _ hsl (by omega) (by omega)).mono ?_; rintro e w7 ⟨⟨g7, k7, rfl, ho7⟩, hg7⟩; have hs7 := hst.of hg7; obtain ⟨⟨x0, x1, x2, -⟩, ⟨y0, y1, y2⟩, ⟨z0, z1, z2⟩, f0, f1, f2, hlt⟩ := hs7.cells; have sl7 := ho7.sl.2.2.2.2; have HS7 := hide hs7; clear ho7 hs7) | (go_at_call 19; refine (rbytes_any _ _ _ _ _ _ (at0 (putL acc.length (at0 acc))) b _ sl7 (((h.take huB).gr hst.gr).gr hg7)).mono ?_; rintro e w8 ⟨rfl, hw8⟩; subst hw8; rw [hsm]))
          have hap := sl_apart (hsl.gr hg7) (by omega) z0
          exact bodyPost_ret (v := .tuple #[.agg #[.int .i64 W, .int .i64 H, .slice (some ⟨g, 0, none⟩) acc.length c0], .int .i64 p, .int .i64 0]) (by simp [results, Tryd.results44, go_sem, z0, z1, z2]) rfl ⟨⟨_, rfl, by
            rw [HG.out]
            exact .inl ⟨rfl, g, c0, rfl, p1, p2, (((hsl.gr hg7).setF (p := ⟨w.heap.size, 0, none⟩) hap).setF (p := ⟨w.heap.size, 1, none⟩) hap).setF (p := ⟨w.heap.size, 2, none⟩) hap⟩⟩, gr_set3 (hst.gr.trans hg7) (Nat.le_refl _)⟩
    have hlt : (acc.length : Int) < n := by omega
    by_cases hs : B < p + 2
    · have HG := hide (HGD.out 2 (by decide) (hdec.trans (decR_short hend hs)))
      have hs' : (B : Int) - p < 2 := by omega
      clear hdec HC hbyte HTD HGD
      obtain ⟨⟨x0, x1, x2, -⟩, ⟨y0, y1, y2⟩, ⟨z0, z1, z2⟩, f0, f1, f2, hlt5⟩ := hst.cells
      go_wp2
      exact bodyPost_ret (v := .tuple #[.agg #[.int .i64 0, .int .i64 0, .slice none 0 0], .int .i64 0, .int .i64 2]) (by simp [results, Tryd.results44, go_sem, z0, z1, z2]) rfl ⟨⟨_, rfl, by rw [HG.out]; exact .inr ⟨by simp, rfl⟩⟩, gr_set3 hst.gr (Nat.le_refl _)⟩
    have hs' : ¬ (B : Int) - p < 2 := by omega
    have c0 := cell_gr (HC.out p (by omega)) hst.gr
    have c1 := cell_gr (HC.out (p + 1) (by omega)) hst.gr
    have q0 := hbyte.out p (by omega)
    have q1 := hbyte.out (p + 1) (by omega)
    have p0 : 0 ≤ (p : Int) := by omega
    have p1 : (p : Int) < B := by omega
    have p2 : 0 ≤ (p : Int) + 1 := by omega
    have p3 : (p : Int) + 1 < B := by omega
    have p4 : ((p : Int) + 1).toNat = p + 1 := by omega
    have pw : IntKind.i64.wrap ((p : Int) + 1) = (p : Int) + 1 := wrapI (by omega)
    obtain ⟨k0, hk0⟩ : ∃ k0 : Nat, k0 = (b p).toNat := ⟨_, rfl⟩
    have hk1 : b p = (k0 : Int) := by omega
    rw [hk1] at c0
    obtain ⟨x, hx⟩ : ∃ x, x = b (p + 1) := ⟨_, rfl⟩
    rw [← hx] at c1 q1
    have kw : IntKind.i64.wrap (k0 : Int) = (k0 : Int) := wrapI (by omega)
    have kw1 : IntKind.i64.wrap ((k0 : Int) + 1) = (k0 : Int) + 1 := wrapI (by omega)
    have k255 : k0 ≤ 255 := by omega
    have HK0 := hide hk0
    have HX := hide hx
    have HDEC := hide hdec
    obtain ⟨⟨x0, x1, x2, xf⟩, -, -, -, -, -, xl⟩ := hst.cells
    have HST0 := hide hst
    clear hk0 hk1 hx hdec hst
    go_wp2_with fail
    go_quiet (fail)
    have hst := HST0.out.of ((Gr.refl _).drewN nq)
    clear c0 c1 HST0 x0 x1 x2 xf xl
    generalize wr.drewN nq = w1 at *
    by_cases hx0 : x = 0
    · have HG := hide (HGD.out 3 (by decide) (HDEC.out.trans (decR_bad hend hs (.inl (by rw [← HX.out]; exact hx0)))))
      have hx0' : (x == 0) = true := by simp [hx0]
      clear HDEC hx0
      obtain ⟨⟨x0, x1, x2, -⟩, ⟨y0, y1, y2⟩, ⟨z0, z1, z2⟩, f0, f1, f2, hlt5⟩ := hst.cells
      go_wp2
      exact bodyPost_ret (v := .tuple #[.agg #[.int .i64 0, .int .i64 0, .slice none 0 0], .int .i64 0, .int .i64 3]) (by simp [results, Tryd.results44, go_sem, z0, z1, z2]) rfl ⟨⟨_, rfl, by rw [HG.out]; exact .inr ⟨by simp, rfl⟩⟩, gr_set3 hst.gr (Nat.le_refl _)⟩
    have hx0' : (x == 0) = false := by simp [hx0]
    have HX0 := hide hx0
    clear hx0
    by_cases hbey : n < acc.length + (k0 + 1)
    · have HG := hide (HGD.out 3 (by decide) (HDEC.out.trans (decR_bad hend hs (.inr (.inl (by rw [← HK0.out]; exact hbey))))))
      have hb1 : (n : Int) < acc.length + ((k0 : Int) + 1) := by omega
      clear HDEC
      obtain ⟨⟨x0, x1, x2, -⟩, ⟨y0, y1, y2⟩, ⟨z0, z1, z2⟩, f0, f1, f2, hlt5⟩ := hst.cells
      go_wp2
      exact bodyPost_ret (v := .tuple #[.agg #[.int .i64 0, .int .i64 0, .slice none 0 0], .int .i64 0, .int .i64 3]) (by simp [results, Tryd.results44, go_sem, z0, z1, z2]) rfl ⟨⟨_, rfl, by rw [HG.out]; exact .inr ⟨by simp, rfl⟩⟩, gr_set3 hst.gr (Nat.le_refl _)⟩
    have hb1 : ¬ (n : Int) < acc.length + ((k0 : Int) + 1) := by omega
    by_cases hacc0 : 0 < acc.length
    · have ha0 : (0 : Int) < acc.length := by omega
      obtain ⟨g, rfl, hob⟩ := hst.sl hab hacc0
      have cl := hob.cellAt (i := acc.length - 1) (by omega)
      have hlast := at0_last hacc0
      obtain ⟨y, hy⟩ : ∃ y, y = at0 acc (acc.length - 1) := ⟨_, rfl⟩
      rw [← hy] at cl hlast
      clear hy hob
      have al1 : ((acc.length : Int) - 1).toNat = acc.length - 1 := by omega
      have al2 : 0 ≤ (acc.length : Int) - 1 := by omega
      have al3 : (acc.length : Int) - 1 < acc.length := by omega
      by_cases hxy : y = x
      · have HG := hide (HGD.out 3 (by decide) (HDEC.out.trans (decR_bad hend hs (.inr (.inr (by rw [hlast, ← HX.out, hxy]))))))
        have hxy' : (y == x) = true := by simp [hxy]
        clear HDEC hxy hlast
        obtain ⟨⟨x0, x1, x2, -⟩, ⟨y0, y1, y2⟩, ⟨z0, z1, z2⟩, f0, f1, f2, hlt5⟩ := hst.cells
        go_wp2
        exact bodyPost_ret (v := .tuple #[.agg #[.int .i64 0, .int .i64 0, .slice none 0 0], .int .i64 0, .int .i64 3]) (by simp [results, Tryd.results44, go_sem, z0, z1, z2]) rfl ⟨⟨_, rfl, by rw [HG.out]; exact .inr ⟨by simp, rfl⟩⟩, gr_set3 hst.gr (Nat.le_refl _)⟩
      · have HSTEP : Hid (¬ (b (p + 1) = 0 ∨ n < acc.length + ((b p).toNat + 1) ∨ acc.getLast? = some (b (p + 1)))) := hide (by
          rw [← HX.out, ← HK0.out, hlast]
          rintro (q | q | q)
          · exact HX0.out q
          · exact hbey q
          · exact hxy (Option.some.inj q))
        have hxy' : (y == x) = false := by simp [hxy]
        clear hxy hlast
        obtain ⟨⟨x0, x1, x2, xf⟩, -, -, -, -, -, xl⟩ := hst.cells
        go_wp2_with fail
        go_loopw [16] (fun s u => ∃ (i : Nat) (a1 : Option Addr) (c1 : Nat), i ≤ k0 + 1 ∧ s = .int .i64 i ∧ St w u W H a1 c1 (acc ++ List.replicate i x)) (fun s _ => k0 + 1 - (intOf s).toNat)
        case atStart => exact ⟨0, some ⟨g, 0, none⟩, c0, Nat.zero_le _, rfl, by simpa using hst⟩
        case round =>
          obtain ⟨i, a1, c1, hi', rfl, hst2⟩ := hrel
          clear x0 x1 x2 xf xl
          have hle2 : (acc ++ List.replicate i x).length = acc.length + i := by simp
          by_cases hik : i < k0 + 1
          · obtain ⟨⟨x0, x1, x2, xf⟩, -, -, -, -, -, xl⟩ := hst2.cells
            have HS0 := hide hst2
            have hik' : (i : Int) < (k0 : Int) + 1 := by omega
            clear hst2
            rw [hle2] at x2
            go_wp2_with (at_builtin; refine wpList_append_own _ rfl _ _ 22 rfl (w.heap.size + 3) 5 i0 (.int .u8 0) 1 1 Tryd.underlying22 hi hz0 hz1 hz2 rfl (by decide) (.slice a1 (acc.length + i) c1) (acc.length + i) ((acc ++ List.replicate i x).map (Value.int .u8)) rfl (by have q := own_gr HS0.out.own ((Gr.refl _).alloc (.cells #[.int .u8 x] 5)); rw [hle2] at q; exact q) ⟨wr.heap.size, 0, none⟩ 1 1 ([x].map (Value.int .u8)) rfl rfl (alloc_one wr _ _) (map_one _ _) (by unfold maxLen; omega) (by omega) (Nat.le_trans (show w.heap.size + 3 ≤ wr.heap.size + 1 by omega) (Nat.le_of_eq (World.size_alloc wr _).symm)) ?_; intro v' w5 hown5 hgrow5 hnil5; rw [← hle2] at hown5 hgrow5; obtain ⟨a2, c2, rfl, o1, s2, s1, s0, g5⟩ := HS0.out.step (M := [x]) ((Gr.refl _).alloc _) rfl hown5 hgrow5; have d3 := s2.cell (i := 2) (by omega); rw [tri_2] at d3; have g3 := s2.frozen 2; have HN := hide (St.next o1 s2 s1 s0 g5); clear hown5 hgrow5 hnil5 o1 s2 s1 s0)
            go_roundw
            case rel =>
              have e := HN.out
              rw [List.append_assoc, ← List.replicate_succ'] at e
              refine ⟨i + 1, a2, c2, by omega, by go_num, ?_⟩
              simpa using e
            case measure => simp [intOf]; omega
          · have hik2 : k0 + 1 = i := by omega
            subst hik2
            have hik' : ¬ ((k0 + 1 : Nat) : Int) < (k0 : Int) + 1 := by omega
            go_wp2
            go_roundw
            case rel =>
              refine ⟨p + 2, acc ++ List.replicate (k0 + 1) x, a1, c1, by omega, by omega, by go_num, hst2, by rw [hle2]; omega, ?_, ?_⟩
              · intro z hz
                rcases List.mem_append.1 hz with hz | hz
                · exact hab z hz
                · rw [(List.mem_replicate.1 hz).2]; exact q1
              · have hd := HDEC.out.trans (decR_step hend hs HSTEP.out)
                rw [← HX.out, ← HK0.out] at hd
                exact hd
            case measure => simp [intOf]; omega
    · have hacc1 : acc = [] := List.eq_nil_of_length_eq_zero (by omega)
      have HSTEP : Hid (¬ (b (p + 1) = 0 ∨ n < acc.length + ((b p).toNat + 1) ∨ acc.getLast? = some (b (p + 1)))) := hide (by
        rw [← HX.out, ← HK0.out]
        rintro (q | q | q)
        · exact HX0.out q
        · exact hbey q
        · rw [hacc1] at q; simp at q)
      have ha0 : ¬ (0 : Int) < acc.length := by omega
      clear hacc1
      obtain ⟨⟨x0, x1, x2, xf⟩, -, -, -, -, -, xl⟩ := hst.cells
      go_wp2_with fail
      go_loopw [16] (fun s u => ∃ (i : Nat) (a1 : Option Addr) (c1 : Nat), i ≤ k0 + 1 ∧ s = .int .i64 i ∧ St w u W H a1 c1 (acc ++ List.replicate i x)) (fun s _ => k0 + 1 - (intOf s).toNat)
      case atStart => exact ⟨0, a0, c0, Nat.zero_le _, rfl, by simpa using hst⟩
      case round =>
        obtain ⟨i, a1, c1, hi', rfl, hst2⟩ := hrel
        clear x0 x1 x2 xf xl
        have hle2 : (acc ++ List.replicate i x).length = acc.length + i := by simp
        by_cases hik : i < k0 + 1
        · obtain ⟨⟨x0, x1, x2, xf⟩, -, -, -, -, -, xl⟩ := hst2.cells
          have HS0 := hide hst2
          have hik' : (i : Int) < (k0 : Int) + 1 := by omega
          clear hst2
          rw [hle2] at x2
          go_wp2_with (at_builtin; refine wpList_append_own _ rfl _ _ 22 rfl (w.heap.size + 3) 5 i0 (.int .u8 0) 1 1 Tryd.underlying22 hi hz0 hz1 hz2 rfl (by decide) (.slice a1 (acc.length + i) c1) (acc.length + i) ((acc ++ List.replicate i x).map (Value.int .u8)) rfl (by have q := own_gr HS0.out.own ((Gr.refl _).alloc (.cells #[.int .u8 x] 5)); rw [hle2] at q; exact q) ⟨wr.heap.size, 0, none⟩ 1 1 ([x].map (Value.int .u8)) rfl rfl (alloc_one wr _ _) (map_one _ _) (by unfold maxLen; omega) (by omega) (Nat.le_trans (show w.heap.size + 3 ≤ wr.heap.size + 1 by omega) (Nat.le_of_eq (World.size_alloc wr _).symm)) ?_; intro v' w5 hown5 hgrow5 hnil5; rw [← hle2] at hown5 hgrow5; obtain ⟨a2, c2, rfl, o1, s2, s1, s0, g5⟩ := HS0.out.step (M := [x]) ((Gr.refl _).alloc _) rfl hown5 hgrow5; have d3 := s2.cell (i := 2) (by omega); rw [tri_2] at d3; have g3 := s2.frozen 2; have HN := hide (St.next o1 s2 s1 s0 g5); clear hown5 hgrow5 hnil5 o1 s2 s1 s0)
          go_roundw
          case rel =>
            have e := HN.out
            rw [List.append_assoc, ← List.replicate_succ'] at e
            refine ⟨i + 1, a2, c2, by omega, by go_num, ?_⟩
            simpa using e
          case measure => simp [intOf]; omega
        · have hik2 : k0 + 1 = i := by omega
          subst hik2
          have hik' : ¬ ((k0 + 1 : Nat) : Int) < (k0 : Int) + 1 := by omega
          go_wp2
          go_roundw
          case rel =>
            refine ⟨p + 2, acc ++ List.replicate (k0 + 1) x, a1, c1, by omega, by omega, by go_num, hst2, by rw [hle2]; omega, ?_, ?_⟩
            · intro z hz
              rcases List.mem_append.1 hz with hz | hz
              · exact hab z hz
              · rw [(List.mem_replicate.1 hz).2]; exact q1
            · have hd := HDEC.out.trans (decR_step hend hs HSTEP.out)
              rw [← HX.out, ← HK0.out] at hd
              exact hd
          case measure => simp [intOf]; omega

theorem rget_any (a : Option Addr) (B cap : Nat) (W H : Int) (n : Nat) (b : Nat → Int) (w : World) (h : Sl w a B b) (hc : B ≤ cap) (hB7 : B ≤ 1000000) (hW : 1 ≤ W ∧ W ≤ 16) (hH : 1 ≤ H ∧ H ≤ 16) (hn : (n : Int) = W * H) :
    Calls Tryd.prog 44 #[.slice a B cap, .int .i64 W, .int .i64 H] w fun e w' => (∃ v, e = .returned v ∧ Gets w' W H (getL n B b) v) ∧ Gr w w' := by
  by_cases hB : B = 0
  · have R : getL n B b = (2, [], 0) := by
      have : readL n B b = (2, [], 0) := by unfold readL; rw [if_pos hB]
      unfold getL; rw [this, if_pos (by simp)]
    rw [R]
    subst hB
    refine (rget_empty a cap W H w hW hH).mono ?_
    rintro e w1 ⟨rfl, hg⟩
    exact ⟨⟨_, rfl, .inr ⟨by simp, rfl⟩⟩, hg⟩
  have hB0 : 0 < B := by omega
  by_cases h0 : b 0 = 0
  · exact rget_alike a B cap W H n b w h hB0 hc hW hH hn h0
  by_cases h1 : b 0 = 1
  · exact rget_plain a B cap W H n b w h hB0 hc hB7 hW hH hn h1
  by_cases h2 : b 0 = 2
  · exact rget_runs a B cap W H n b w h hB0 hc hB7 hW hH hn h2
  · have R : getL n B b = (3, [], 0) := by
      have : readL n B b = (3, [], 0) := by unfold readL; rw [if_neg hB, if_neg h0, if_neg h1, if_neg h2]
      unfold getL; rw [this, if_pos (by simp)]
    rw [R]
    refine (rget_other a B cap W H b w h hB0 hW hH ⟨h0, h1, h2⟩).mono ?_
    rintro e w1 ⟨rfl, hg⟩
    exact ⟨⟨_, rfl, .inr ⟨by simp, rfl⟩⟩, hg⟩


end Go.Proofs.YtakmiafloolpmaaDoor
