/- Which of two seeds is ahead: the program's compare and the document's before. No condition. -/
import Derived.Test.YtigoehoaplndiaaSBase8
import Derived.Sort.Grow
import Derived.Deep.RegionHeld3
import Derived.Deep.CutRange
namespace Go.Proofs.Ytigoehoaplndiaa
open Go.RowKit
set_option maxRecDepth 20000

set_option maxHeartbeats 400000 in
theorem isNaN_any (x : Int) (w : World) : Calls Try.prog 46 #[.int .i64 x] w fun e w' => e = .returned (.bool false) ∧ w' = w := by
  go_enter Try.func46, Try.ntmps46
  go_wp2
  go_ret
  simp
set_option maxHeartbeats 400000 in
theorem cmp_any (x y : Int) (w : World) : Calls Try.prog 28 #[.int .i64 x, .int .i64 y] w fun e w' => e = .returned (.int .i64 (cmpI x y)) ∧ w' = w := by
  by_cases h1 : x < y
  · rw [show cmpI x y = -1 by simp [cmpI, h1]]
    go_enter Try.func28, Try.ntmps28
    go_wp2_with (go_at_call 46; refine (isNaN_any _ _).mono ?_; rintro e w1 ⟨rfl, rfl⟩)
    go_ret
    exact ⟨rfl, rfl⟩
  · by_cases h2 : y < x
    · rw [show cmpI x y = 1 by simp [cmpI, h1, h2]]
      go_enter Try.func28, Try.ntmps28
      go_wp2_with (go_at_call 46; refine (isNaN_any _ _).mono ?_; rintro e w1 ⟨rfl, rfl⟩)
      go_ret
      exact ⟨rfl, rfl⟩
    · rw [show cmpI x y = 0 by simp [cmpI, h1, h2]]
      go_enter Try.func28, Try.ntmps28
      go_wp2_with (go_at_call 46; refine (isNaN_any _ _).mono ?_; rintro e w1 ⟨rfl, rfl⟩)
      go_ret
      exact ⟨rfl, rfl⟩
/-- the first that is not 0 -/
def or3 (x y z : Int) : Int := if x ≠ 0 then x else if y ≠ 0 then y else z
def sel3 (x y z : Int) (i : Nat) : Int := if i = 0 then x else if i = 1 then y else z
theorem or3_at {x y z : Int} {s : Nat} (hs : s < 3) (h0 : ∀ j, j < s → sel3 x y z j = 0) (h : sel3 x y z s ≠ 0) : or3 x y z = sel3 x y z s := by
  rcases (by omega : s = 0 ∨ s = 1 ∨ s = 2) with rfl | rfl | rfl
  · exact if_pos h
  · have a0 : x = 0 := h0 0 (by omega)
    unfold or3
    rw [if_neg (by omega)]
    exact if_pos h
  · have a0 : x = 0 := h0 0 (by omega)
    have a1 : y = 0 := h0 1 (by omega)
    unfold or3
    rw [if_neg (by omega), if_neg (by omega)]
    rfl
theorem or3_none {x y z : Int} (h0 : ∀ j, j < 3 → sel3 x y z j = 0) : or3 x y z = 0 := by
  have a0 : x = 0 := h0 0 (by omega)
  have a1 : y = 0 := h0 1 (by omega)
  have a2 : z = 0 := h0 2 (by omega)
  unfold or3
  rw [if_neg (by omega), if_neg (by omega), a2]
set_option maxHeartbeats 400000 in
theorem or_any (x y z : Int) (B : Nat) (w : World) (hc : ∀ i, i < 3 → w.cell? ⟨B, i, none⟩ = some (.int .i64 (sel3 x y z i))) :
    Calls Try.prog 27 #[.slice (some ⟨B, 0, none⟩) 3 3] w fun e w' => e = .returned (.int .i64 (or3 x y z)) ∧ w' = w := by
  have HC := hide hc
  clear hc
  go_enter Try.func27, Try.ntmps27
  go_wp2_with fail
  go_loopw [8] (fun i u => ∃ (s : Nat), s ≤ 3 ∧ i = .int .i64 s ∧ (∀ j, j < s → sel3 x y z j = 0) ∧ u = w) (fun i _ => 3 - (intOf i).toNat)
  case atStart => exact ⟨0, by omega, rfl, fun j hj => absurd hj (Nat.not_lt_zero _), rfl⟩
  case round =>
    obtain ⟨s, hs, rfl, h0, rfl⟩ := hrel
    have H0 := hide h0
    clear h0
    by_cases hsn : s < 3
    · have hsn2 : (s : Int) < 3 := by omega
      have c := HC.out s hsn
      by_cases hz : sel3 x y z s = 0
      · rw [hz] at c
        have HZ := hide hz
        clear hz
        go_wp2
        go_roundw
        case rel =>
          refine ⟨s + 1, hsn, by go_num, fun j hj => ?_, by trivial⟩
          rcases (by omega : j < s ∨ j = s) with k | rfl
          · exact H0.out j k
          · exact HZ.out
        case measure => simp [intOf]; omega
      · have hz0 : (sel3 x y z s == 0) = false := by simpa using hz
        obtain ⟨V, hV⟩ : ∃ V, V = sel3 x y z s := ⟨_, rfl⟩
        have HE := hide (or3_at hsn H0.out hz)
        rw [← hV] at c hz hz0
        have HV := hide hV
        clear hV
        go_wp2
        go_ret
        rw [HE.out.trans HV.out.symm]
        exact ⟨rfl, rfl⟩
    · have : s = 3 := by omega
      subst this
      go_wp2
      go_ret
      rw [or3_none H0.out]
      exact ⟨rfl, rfl⟩
theorem cmpS_or (x y : Sd) : or3 (cmpI x.2.2 y.2.2) (cmpI x.1 y.1) (cmpI x.2.1 y.2.1) = cmpS x y := rfl

/-- the class of worlds behind draws and new blocks -/
def Gw (w w' : World) : Prop := ∃ q os, w' = Go.Sort.grow (w.drewN q) os
theorem Gw.refl (w : World) : Gw w w := ⟨0, #[], by rw [Go.Sort.grow_empty]; rfl⟩
theorem Gw.drew {w w' : World} (h : Gw w w') : Gw w w'.drew := by
  obtain ⟨q, os, rfl⟩ := h
  exact ⟨q + 1, os, rfl⟩
theorem Gw.alloc {w w' : World} (h : Gw w w') (o : Obj) : Gw w (w'.alloc o) := by
  obtain ⟨q, os, rfl⟩ := h
  exact ⟨q, os.push o, by rw [Go.Sort.alloc_eq_grow, Go.Sort.grow_grow]; rfl⟩
theorem Gw.gr {w w' : World} (h : Gw w w') : Gr w w' := by
  obtain ⟨q, os, rfl⟩ := h
  have h1 : Gr w (w.drewN q) := (Gr.refl w).drewN q
  refine h1.trans ⟨rfl, rfl, rfl, by simp, fun k hk => ?_⟩
  rw [Go.Sort.heap_grow_old _ _ hk]
theorem tri3 (w : World) (x : Sd) (T : TypeId) : (w.alloc (.cells #[.int .i64 x.1, .int .i64 x.2.1, .int .i64 x.2.2] T)).cell? ⟨w.heap.size, 0, none⟩ = some (.int .i64 x.1) ∧ (w.alloc (.cells #[.int .i64 x.1, .int .i64 x.2.1, .int .i64 x.2.2] T)).cell? ⟨w.heap.size, 1, none⟩ = some (.int .i64 x.2.1) ∧ (w.alloc (.cells #[.int .i64 x.1, .int .i64 x.2.1, .int .i64 x.2.2] T)).cell? ⟨w.heap.size, 2, none⟩ = some (.int .i64 x.2.2) := by
  refine ⟨?_, ?_, ?_⟩ <;> (rw [cell_of_row _ _ _ _ _ _ (Go.Deep.blk_alloc_new _ _)]; rfl)
theorem new3 (w : World) (x y z : Int) (T : TypeId) : ∀ i, i < 3 → (w.alloc (.cells #[.int .i64 x, .int .i64 y, .int .i64 z] T)).drew.cell? ⟨w.heap.size, i, none⟩ = some (.int .i64 (sel3 x y z i)) := by
  intro i hi
  rw [cell_of_row (w.alloc (.cells #[.int .i64 x, .int .i64 y, .int .i64 z] T)).drew _ _ _ _ _ (Go.Deep.blk_alloc_new _ _)]
  rcases (by omega : i = 0 ∨ i = 1 ∨ i = 2) with rfl | rfl | rfl <;> rfl
set_option maxHeartbeats 2000000 in
theorem compare_any (x y : Sd) (w : World) : Calls Try.prog 42 #[.agg #[.int .i64 x.1, .int .i64 x.2.1, .int .i64 x.2.2], .agg #[.int .i64 y.1, .int .i64 y.2.1, .int .i64 y.2.2]] w fun e w' => e = .returned (.int .i64 (cmpS x y)) ∧ Gw w w' := by
  rw [← cmpS_or]
  have hx := tri3 w x 39
  obtain ⟨w1, hw1⟩ : ∃ w1, w1 = w.alloc (.cells #[.int .i64 x.1, .int .i64 x.2.1, .int .i64 x.2.2] 39) := ⟨_, rfl⟩
  have hy := tri3 w1 y 39
  have g1 : Gw w w1 := hw1 ▸ (Gw.refl w).alloc _
  obtain ⟨w2, hw2⟩ : ∃ w2, w2 = w1.alloc (.cells #[.int .i64 y.1, .int .i64 y.2.1, .int .i64 y.2.2] 39) := ⟨_, rfl⟩
  have g2 : Gw w w2 := hw2 ▸ g1.alloc _
  have k2 : Gr w1 w2 := hw2 ▸ (Gr.refl w1).alloc _
  rw [← hw1] at hx
  rw [← hw2] at hy
  obtain ⟨x1, x2, x3⟩ := hx
  obtain ⟨y1, y2, y3⟩ := hy
  replace x1 := cell_gr x1 k2
  replace x2 := cell_gr x2 k2
  replace x3 := cell_gr x3 k2
  have hs1 : w1.heap.size = w.heap.size + 1 := by rw [hw1]; simp
  rw [hs1] at y1 y2 y3
  obtain ⟨a, b, c⟩ := x
  obtain ⟨d, e, f⟩ := y
  simp only at *
  go_enter Try.func42, Try.ntmps42
  go_upto_region 1 with fail
  rw [← hw1, ← hw2]
  generalize w.heap.size = B1 at *
  clear hw1 hw2 k2 g1 hs1
  go_region_held3 (fun u => u.cell? ⟨B1, 0, none⟩ = some (.int .i64 a) ∧ u.cell? ⟨B1, 1, none⟩ = some (.int .i64 b) ∧ u.cell? ⟨B1, 2, none⟩ = some (.int .i64 c) ∧ u.cell? ⟨B1 + 1, 0, none⟩ = some (.int .i64 d) ∧ u.cell? ⟨B1 + 1, 1, none⟩ = some (.int .i64 e) ∧ u.cell? ⟨B1 + 1, 2, none⟩ = some (.int .i64 f) ∧ Gw w u) (first | exact ⟨x1, x2, x3, y1, y2, y3, g2.drew⟩ | exact ⟨cell_gr x1 ((Gr.refl w2).alloc _).drew, cell_gr x2 ((Gr.refl w2).alloc _).drew, cell_gr x3 ((Gr.refl w2).alloc _).drew, cell_gr y1 ((Gr.refl w2).alloc _).drew, cell_gr y2 ((Gr.refl w2).alloc _).drew, cell_gr y3 ((Gr.refl w2).alloc _).drew, (g2.alloc _).drew⟩) (first | (go_at_call 28; refine (cmp_any _ _ _).mono ?_; rintro e9 w9 ⟨rfl, rfl⟩) | (go_at_call 27; refine (or_any _ _ _ _ _ (new3 _ _ _ _ _)).mono ?_; rintro e9 w9 ⟨rfl, rfl⟩))
  go_wp2
  go_ret
  exact ⟨rfl, (g2.alloc _).drew⟩
end Go.Proofs.Ytigoehoaplndiaa
