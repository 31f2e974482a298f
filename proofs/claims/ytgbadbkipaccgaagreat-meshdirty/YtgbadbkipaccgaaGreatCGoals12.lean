/- table.goals: seeds that tell of goals at these locals. No condition. -/
import Derived.Test.YtgbadbkipaccgaaGreatBS1
import Derived.Test.YtgbadbkipaccgaaGreatCMath12
namespace Go.Proofs.YtgbadbkipaccgaaGreat
open Go.RowKit
set_option maxRecDepth 20000

/-- goals at these locals -/
def goalsL (z : Nat → Int) (m : Nat) : List Sd := (List.range m).map fun i => (z i, 4, 0)
/-- the first j of them, nothing behind -/
def goalsU (z : Nat → Int) (m j : Nat) : List Sd := (List.range m).map fun i => if i < j then (z i, 4, 0) else (0, 0, 0)
theorem goalsL_len (z : Nat → Int) (m : Nat) : (goalsL z m).length = m := by simp [goalsL]
theorem goalsU_len (z : Nat → Int) (m j : Nat) : (goalsU z m j).length = m := by simp [goalsU]
theorem goalsU_all (z : Nat → Int) (m : Nat) : goalsU z m m = goalsL z m := by
  unfold goalsU goalsL
  refine List.map_congr_left fun i hi => ?_
  rw [if_pos (List.mem_range.1 hi)]
theorem goalsU_none (z : Nat → Int) (m : Nat) : goalsU z m 0 = List.replicate m (0, 0, 0) := by
  unfold goalsU
  simp [List.map_const']
theorem goalsU_set (z : Nat → Int) (m j : Nat) : (goalsU z m j).set j (z j, 4, 0) = goalsU z m (j + 1) := by
  unfold goalsU
  apply List.ext_getElem?
  intro i
  rw [List.getElem?_set]
  by_cases e : j = i
  · subst e
    by_cases hj : j < m
    · simp [hj]
    · simp [hj]
  · rw [if_neg e]
    by_cases hi : i < m
    · have : (i < j + 1) ↔ i < j := by omega
      simp [hi, this]
    · simp [hi]
theorem goalsU_at {z : Nat → Int} {m j : Nat} (h : j < m) : el (goalsU z m j) j = (0, 0, 0) := el_of (by simp [goalsU, h])
theorem own_frozen {w : World} {base n c g : Nat} {xs : List Value} (h : w.ownsRow base 87 3 (.slice (some ⟨g, 0, none⟩) n c) n xs) (i : Nat) : w.frozen? ⟨g, i, none⟩ = false := by
  rcases h.2 with ⟨e, _⟩ | ⟨g', cap, cur, e, hb, hg, _⟩
  · cases e
  · cases e
    exact frozen_of_row w g i cur _ hg
theorem goalsL_one (z : Nat → Int) : goalsL z 1 = goalL (z 0) := rfl
theorem flatS_set : ∀ (L : List Sd) (j : Nat) (x : Sd), ((((flatS L).set (j * 3) (.int .i64 x.1)).set (j * 3 + 1) (.int .i64 x.2.1)).set (j * 3 + 2) (.int .i64 x.2.2)) = flatS (L.set j x)
  | [], j, x => by simp [flatS]
  | e :: L, 0, x => rfl
  | e :: L, j + 1, x => by
    have := flatS_set L j x
    rw [List.set_cons_succ, flatS_cons, flatS_cons, ← this, show (j + 1) * 3 + 2 = (j * 3 + 2) + 1 + 1 + 1 by omega, show (j + 1) * 3 + 1 = (j * 3 + 1) + 1 + 1 + 1 by omega, show (j + 1) * 3 = j * 3 + 1 + 1 + 1 by omega]
    rfl
theorem flatS_zeros : ∀ m : Nat, flatS (List.replicate m (0, 0, 0)) = (madeCells #[.int .i64 0, .int .i64 0, .int .i64 0] (m * 3)).toList := by
  intro m
  apply List.ext_getElem?
  intro i
  by_cases hi : i < m * 3
  · have h1 : i / 3 < m := by omega
    have h2 : (List.replicate m ((0, 0, 0) : Sd))[i / 3]? = some (0, 0, 0) := by simp [h1]
    obtain ⟨a, b, c⟩ := flatS_get _ _ _ h2
    have h3 : (madeCells #[.int .i64 0, .int .i64 0, .int .i64 0] (m * 3)).toList[i]? = some (.int .i64 0) := by
      have : i % 3 < 3 := Nat.mod_lt _ (by omega)
      simp only [madeCells, Array.getElem?_toList]
      rcases (by omega : i % 3 = 0 ∨ i % 3 = 1 ∨ i % 3 = 2) with e | e | e <;> simp [hi, e]
    rw [h3]
    rcases (by omega : i = i / 3 * 3 ∨ i = i / 3 * 3 + 1 ∨ i = i / 3 * 3 + 2) with e | e | e
    · rw [e]; exact a
    · rw [e]; exact b
    · rw [e]; exact c
  · rw [List.getElem?_eq_none (by rw [flatS_len]; simp; omega), List.getElem?_eq_none (by simp [madeCells]; omega)]
theorem make_goals (C : Nat) (hc : C ≤ 1000000) (w : World) : (Instr.makeSlice 88 (.int .i64 (C : Int)) (.int .i64 (C : Int))).run Tryz.prog w = .ok (.slice (some ⟨w.heap.size, 0, none⟩) C C) (w.alloc (.cells (madeCells #[.int .i64 0, .int .i64 0, .int .i64 0] (C * 3)) 87)) := by
  obtain ⟨i0, hi, hz0, hz1, hz2⟩ := info_parts info_seed
  have hr := run_make (P := Tryz.prog) w 88 87 i0 (.agg #[.int .i64 0, .int .i64 0, .int .i64 0]) Tryz.underlying88 hi hz0 .i64 .i64 C C (by omega) (by omega) (by rw [hz2]; omega) (by omega)
  simp only [Int.toNat_natCast, hz1] at hr
  exact hr
theorem goals_made (w : World) (z : Nat → Int) (m : Nat) (hm : m ≤ 1000000) : (w.alloc (.cells (madeCells #[.int .i64 0, .int .i64 0, .int .i64 0] (m * 3)) 87)).ownsRow w.heap.size 87 3 (.slice (some ⟨w.heap.size, 0, none⟩) m m) m (flatS (goalsU z m 0)) :=
  ⟨by rw [flatS_len, goalsU_len], .inr ⟨_, m, _, rfl, Nat.le_refl _, Go.Deep.blk_alloc_new _ _, Nat.le_refl _, by unfold maxLen; omega, by simp [madeCells], by rw [goalsU_none, flatS_zeros]; exact List.take_of_length_le (by simp [madeCells])⟩⟩

set_option maxHeartbeats 1000000 in
theorem goals_any (a : Option Addr) (m c : Nat) (z : Nat → Int) (w : World) (h : SlI w a m z) (hm : m ≤ 100000) :
    Calls Tryz.prog 85 #[.slice a m c] w fun e w' => (e = .returned (.slice (some ⟨w.heap.size, 0, none⟩) m m) ∧ SlS w' (some ⟨w.heap.size, 0, none⟩) m m (goalsL z m)) ∧ Gr w w' := by
  have hmk := make_goals m (by omega) w
  have hown := goals_made w z m (by omega)
  have hg1 : Gr w (w.alloc (.cells (madeCells #[.int .i64 0, .int .i64 0, .int .i64 0] (m * 3)) 87)) := (Gr.refl w).alloc _
  go_enter Tryz.func85, Tryz.ntmps85
  go_wp2_with fail
  go_loopw [11] (fun iv u => ∃ j : Nat, iv = .int .i64 j ∧ j ≤ m ∧ u.ownsRow w.heap.size 87 3 (.slice (some ⟨w.heap.size, 0, none⟩) m m) m (flatS (goalsU z m j)) ∧ Gr w u) (fun iv _ => m - (intOf iv).toNat)
  case atStart => exact ⟨0, rfl, by omega, hown, hg1⟩
  case round =>
    obtain ⟨j, rfl, hj, hr, hgr⟩ := hrel
    clear hown hg1 hmk
    generalize wr = w1 at *
    by_cases hlt : j < m
    · obtain ⟨b, o, rfl, hb, hc⟩ := h.at (by omega)
      have e1 := cell_gr (hc j hlt) hgr
      have j0 : (0 : Int) ≤ (j : Int) := by omega
      have j1 : (j : Int) < (m : Int) := by omega
      obtain ⟨v, hv⟩ : ∃ v, v = z j := ⟨_, rfl⟩
      rw [← hv] at e1
      have HV := hide hv
      have hfz : ∀ i, w1.frozen? ⟨w.heap.size, i, none⟩ = false := own_frozen hr
      have y : (w1.cell? ⟨w.heap.size, j * 3, none⟩ = some (.int .i64 0) ∧ w1.cell? ⟨w.heap.size, j * 3 + 1, none⟩ = some (.int .i64 0) ∧ w1.cell? ⟨w.heap.size, j * 3 + 2, none⟩ = some (.int .i64 0)) := by
        obtain ⟨a1, c1, q1, hs⟩ := SlS.of_own hr (goalsU_len z m j)
        cases q1
        obtain ⟨b2, o2, q2, -, h2⟩ := hs.at (by omega)
        cases q2
        have h3 := h2 j hlt
        rw [goalsU_at hlt, Nat.zero_add] at h3
        exact h3
      obtain ⟨y1, y2, y3⟩ := y
      have HR : Hid ((((w1.setCell ⟨w.heap.size, j * 3, none⟩ (.int .i64 v)).setCell ⟨w.heap.size, j * 3 + 1, none⟩ (.int .i64 4)).setCell ⟨w.heap.size, j * 3 + 2, none⟩ (.int .i64 0)).ownsRow w.heap.size 87 3 (.slice (some ⟨w.heap.size, 0, none⟩) m m) m (flatS (goalsU z m (j + 1))) ∧ Gr w (((w1.setCell ⟨w.heap.size, j * 3, none⟩ (.int .i64 v)).setCell ⟨w.heap.size, j * 3 + 1, none⟩ (.int .i64 4)).setCell ⟨w.heap.size, j * 3 + 2, none⟩ (.int .i64 0))) := hide (by
        have r3 := ((hr.stored (j * 3) (.int .i64 v)).1.stored (j * 3 + 1) (.int .i64 4)).1.stored (j * 3 + 2) (.int .i64 0)
        have r4 := flatS_set (goalsU z m j) j (v, 4, 0)
        simp only at r4
        rw [r4, HV.out, goalsU_set] at r3
        refine ⟨?_, ((hgr.set (Nat.le_refl _) _).set (Nat.le_refl _) _).set (Nat.le_refl _) _⟩
        rw [HV.out]
        exact r3.1)
      clear hc hv hr hgr
      go_wp2_with fail
      exact ⟨⟨j + 1, by go_num, by omega, HR.out.1, HR.out.2⟩, by simp [intOf]; omega⟩
    · obtain rfl : j = m := by omega
      rw [goalsU_all] at hr
      obtain ⟨a1, c1, e1, hs⟩ := SlS.of_own hr (goalsL_len z j)
      cases e1
      go_wp2
      go_ret
      exact ⟨⟨rfl, hs⟩, hgr⟩
end Go.Proofs.YtgbadbkipaccgaaGreat
