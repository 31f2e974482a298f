/- What the document's GetTile answers, form by form. -/
import Derived.Test.YtcbcekgjpcpibaaDoorRGet
namespace Go.Proofs.YtcbcekgjpcpibaaDoor
open Go.RowKit
set_option maxRecDepth 20000

theorem size_drewN (w : World) : ∀ q, (w.drewN q).heap.size = w.heap.size
  | 0 => rfl
  | q + 1 => size_drewN w q
theorem two_draws {w w4 : World} {q3 q4 : Nat} {x y : Obj} (h4 : w4 = (((w.alloc x).alloc y).drewN q3).drewN q4) : Gr ((w.alloc x).alloc y) w4 ∧ w4.heap.size = w.heap.size + 2 := by
  refine ⟨?_, ?_⟩
  · rw [h4]; exact ((Gr.refl _).drewN _).drewN _
  · rw [h4, size_drewN, size_drewN, World.size_alloc, World.size_alloc]
theorem two_rows {w w4 : World} (hg : Gr ((w.alloc (.cells #[.int .i64 0, .int .i64 0, .slice none 0 0] 26)).alloc (.cells #[.int .i64 0, .int .i64 0, .slice none 0 0] 26)) w4) :
    (w4.cell? ⟨w.heap.size + 1, 0, none⟩ = some (.int .i64 0) ∧ w4.cell? ⟨w.heap.size + 1, 1, none⟩ = some (.int .i64 0) ∧ w4.cell? ⟨w.heap.size + 1, 2, none⟩ = some (.slice none 0 0)) ∧
    (w4.cell? ⟨w.heap.size, 0, none⟩ = some (.int .i64 0) ∧ w4.cell? ⟨w.heap.size, 1, none⟩ = some (.int .i64 0) ∧ w4.cell? ⟨w.heap.size, 2, none⟩ = some (.slice none 0 0)) ∧
    w4.frozen? ⟨w.heap.size, 0, none⟩ = false ∧ w4.frozen? ⟨w.heap.size, 1, none⟩ = false ∧ w4.frozen? ⟨w.heap.size, 2, none⟩ = false := by
  have t0 := row_gr (tri_alloc w (.int .i64 0) (.int .i64 0) (.slice none 0 0) 26) (((Gr.refl _).alloc _).trans hg)
  have t1 := tri_alloc (w.alloc (.cells #[.int .i64 0, .int .i64 0, .slice none 0 0] 26)) (.int .i64 0) (.int .i64 0) (.slice none 0 0) 26
  rw [World.size_alloc] at t1
  replace t1 := row_gr t1 hg
  exact ⟨⟨t1.cell (i := 0) (by omega), t1.cell (i := 1) (by omega), t1.cell (i := 2) (by omega)⟩, ⟨t0.cell (i := 0) (by omega), t0.cell (i := 1) (by omega), t0.cell (i := 2) (by omega)⟩, t0.frozen 0, t0.frozen 1, t0.frozen 2⟩
theorem St.first4 {w w4 : World} {W H : Int} (hg : Gr ((w.alloc (Obj.cells #[Value.int .i64 0, .int .i64 0, .slice none 0 0] 26)).alloc (Obj.cells #[Value.int .i64 0, .int .i64 0, .slice none 0 0] 26)) w4) (hz : w4.heap.size = w.heap.size + 2) : St w (w4.alloc (.cells #[.int .i64 W, .int .i64 H, .slice none 0 0] 26)) W H none 0 [] := by
  have h := (St.first w W H)
  refine ⟨World.ownsRow_nil _ _ _ _, ?_, ?_, ?_, ((((Gr.refl w).alloc _).alloc _).trans hg).alloc _⟩
  · have := tri_alloc w4 (.int .i64 W) (.int .i64 H) (.slice none 0 0) 26
    rw [hz] at this
    exact this
  · have := tri_alloc (w.alloc (Obj.cells #[Value.int .i64 0, .int .i64 0, .slice none 0 0] 26)) (.int .i64 0) (.int .i64 0) (.slice none 0 0) 26
    rw [World.size_alloc] at this
    exact row_gr this (hg.alloc _)
  · exact row_gr (tri_alloc w (.int .i64 0) (.int .i64 0) (.slice none 0 0) 26) ((((Gr.refl _).alloc _).trans hg).alloc _)

set_option maxHeartbeats 1000000 in
theorem rget_arg (a : Option Addr) (B cap : Nat) (W H : Int) (w : World) (h : fitsB W = false ∨ fitsB H = false) :
    Calls Tryd.prog 10 #[.slice a B cap, .int .i64 W, .int .i64 H] w fun e w' => e = .returned (.tuple #[.agg #[.int .i64 0, .int .i64 0, .slice none 0 0], .int .i64 0, .int .i64 1]) ∧ Gr w w' := by
  cases hW : fitsB W
  · have h1 := (fitsB_false W).1 hW
    go_enter Tryd.func10, Tryd.ntmps10
    go_wp2_with (go_at_call 18; (first | refine (in_yes _ _ _ _ (by omega) (by omega)).mono ?_ | refine (in_no _ _ _ _ (by omega)).mono ?_); rintro e w' ⟨rfl, q, rfl⟩)
    exact bodyPost_ret (v := .tuple #[.agg #[.int .i64 0, .int .i64 0, .slice none 0 0], .int .i64 0, .int .i64 1]) (by simp [results, Tryd.results10, go_sem]) rfl ⟨rfl, (by repeat (first | exact Gr.refl _ | assumption | exact Dr.gr (by assumption) | refine Gr.alloc ?_ _ | refine Gr.drewN ?_ _ | refine Gr.drew ?_ | (refine Gr.set ?_ (by first | exact Nat.le_refl _ | exact Nat.le_succ _ | (show _ ≤ _; omega) | (simp only [World.size_alloc] at *; omega)) _) | refine Gr.trans ?_ (by assumption) | refine Gr.trans ?_ (Dr.gr (by assumption))))⟩
  · have h1 := (fitsB_iff W).1 hW
    have h2 : H < 1 ∨ 16 < H := by
      rcases h with h | h
      · rw [h] at hW; cases hW
      · have := (fitsB_false H).1 h; omega
    go_enter Tryd.func10, Tryd.ntmps10
    go_wp2_with (go_at_call 18; (first | refine (in_yes _ _ _ _ (by omega) (by omega)).mono ?_ | refine (in_no _ _ _ _ (by omega)).mono ?_); rintro e w' ⟨rfl, q, rfl⟩)
    exact bodyPost_ret (v := .tuple #[.agg #[.int .i64 0, .int .i64 0, .slice none 0 0], .int .i64 0, .int .i64 1]) (by simp [results, Tryd.results10, go_sem]) rfl ⟨rfl, (by repeat (first | exact Gr.refl _ | assumption | exact Dr.gr (by assumption) | refine Gr.alloc ?_ _ | refine Gr.drewN ?_ _ | refine Gr.drew ?_ | (refine Gr.set ?_ (by first | exact Nat.le_refl _ | exact Nat.le_succ _ | (show _ ≤ _; omega) | (simp only [World.size_alloc] at *; omega)) _) | refine Gr.trans ?_ (by assumption) | refine Gr.trans ?_ (Dr.gr (by assumption))))⟩

set_option maxHeartbeats 1000000 in
theorem rget_empty (a : Option Addr) (cap : Nat) (W H : Int) (w : World) (hW : 1 ≤ W ∧ W ≤ 16) (hH : 1 ≤ H ∧ H ≤ 16) :
    Calls Tryd.prog 10 #[.slice a 0 cap, .int .i64 W, .int .i64 H] w fun e w' => e = .returned (.tuple #[.agg #[.int .i64 0, .int .i64 0, .slice none 0 0], .int .i64 0, .int .i64 2]) ∧ Gr w w' := by
  go_enter Tryd.func10, Tryd.ntmps10
  go_wp2_with (go_at_call 18; (first | refine (in_yes _ _ _ _ (by omega) (by omega)).mono ?_ | refine (in_no _ _ _ _ (by omega)).mono ?_); rintro e w' ⟨rfl, q, rfl⟩)
  exact bodyPost_ret (v := .tuple #[.agg #[.int .i64 0, .int .i64 0, .slice none 0 0], .int .i64 0, .int .i64 2]) (by simp [results, Tryd.results10, go_sem]) rfl ⟨rfl, (by repeat (first | exact Gr.refl _ | assumption | exact Dr.gr (by assumption) | refine Gr.alloc ?_ _ | refine Gr.drewN ?_ _ | refine Gr.drew ?_ | (refine Gr.set ?_ (by first | exact Nat.le_refl _ | exact Nat.le_succ _ | (show _ ≤ _; omega) | (simp only [World.size_alloc] at *; omega)) _) | refine Gr.trans ?_ (by assumption) | refine Gr.trans ?_ (Dr.gr (by assumption))))⟩

set_option maxHeartbeats 1000000 in
theorem rget_other (a : Option Addr) (B cap : Nat) (W H : Int) (b : Nat → Int) (w : World) (h : Sl w a B b) (hB : 0 < B) (hW : 1 ≤ W ∧ W ≤ 16) (hH : 1 ≤ H ∧ H ≤ 16) (h0 : b 0 ≠ 0 ∧ b 0 ≠ 1 ∧ b 0 ≠ 2) :
    Calls Tryd.prog 10 #[.slice a B cap, .int .i64 W, .int .i64 H] w fun e w' => e = .returned (.tuple #[.agg #[.int .i64 0, .int .i64 0, .slice none 0 0], .int .i64 0, .int .i64 3]) ∧ Gr w w' := by
  obtain ⟨bb, oo, rfl, hbb, hcell⟩ := h.at hB
  have c0 := hcell 0 hB
  rw [Nat.add_zero] at c0
  have m := mul_bd (w := W) (h := H) (W := 16) (H := 16) (by omega) (by omega) (by omega) (by omega)
  have b0 : (b 0 == 0) = false := by simp [h0.1]
  have b1 : (b 0 == 1) = false := by simp [h0.2.1]
  have b2 : (b 0 == 2) = false := by simp [h0.2.2]
  have hBi : ((B : Int) == 0) = false := by rw [beq_eq_false_iff_ne]; omega
  clear hcell h0
  go_enter Tryd.func10, Tryd.ntmps10
  go_wp2_with fail
  refine (in_yes _ _ _ _ (by omega) (by omega)).mono ?_
  rintro e w3 ⟨rfl, q3, rfl⟩
  go_wp2_with fail
  refine (in_yes _ _ _ _ (by omega) (by omega)).mono ?_
  rintro e w4 ⟨rfl, q4, hq4⟩
  obtain ⟨hg4, hz4⟩ := two_draws hq4
  clear hq4
  replace c0 := cell_gr c0 ((((Gr.refl w).alloc _).alloc _).trans hg4)
  have hnb : ¬ bb = w.heap.size + 2 := by omega
  have hlb : bb < w.heap.size + 2 := by omega
  have HST := hide (St.first4 (W := W) (H := H) hg4 hz4)
  obtain ⟨⟨y0, y1, y2⟩, ⟨z0, z1, z2⟩, f0, f1, f2⟩ := two_rows hg4
  clear HST
  go_wp2
  exact bodyPost_ret (v := .tuple #[.agg #[.int .i64 0, .int .i64 0, .slice none 0 0], .int .i64 0, .int .i64 3]) (by simp [results, Tryd.results10, go_sem, hz4, z0, z1, z2]) rfl ⟨rfl, (gr_set3 ((((Gr.refl w).alloc _).alloc _).trans hg4) (Nat.le_refl _)).alloc _⟩

end Go.Proofs.YtcbcekgjpcpibaaDoor
