/- What slices.Repeat answers of one integer, 1 to 256 times. No condition. -/
import Derived.Test.YtigoehoaplndiaaXFar9
import Derived.Laws.Bits64b
import Derived.Laws.CopyOwn
import Derived.Deep.CutRange
namespace Go.Proofs.Ytigoehoaplndiaa
open Go.RowKit
set_option maxRecDepth 20000

set_option maxHeartbeats 1000000 in
theorem xmul64_1 (y : Nat) (hy : y ≤ 256) (w : World) :
    Calls Try.prog 76 #[.int .u64 1, .int .u64 y] w fun e w' => e = .returned (.tuple #[.int .u64 0, .int .u64 y]) ∧ w' = w := by
  have m1 : bits .and .u64 1 4294967295 = 1 := by decide
  have m0 : bits .and .u64 0 4294967295 = 0 := by decide
  have m2 : bits .and .u64 (y : Int) 4294967295 = y := by
    have h := bits_and_u64_nat y 4294967295 (by omega) (by omega)
    have e : y &&& 4294967295 = y % 4294967296 := Nat.and_two_pow_sub_one_eq_mod y 32
    rw [e, Nat.mod_eq_of_lt (by omega)] at h
    exact h
  have d1 : (y : Int) / 4294967296 = 0 := by omega
  go_enter Try.func76, Try.ntmps76
  go_wp2
  go_ret2
  exact ⟨rfl, rfl⟩
set_option maxHeartbeats 1000000 in
theorem xmul_1 (y : Nat) (hy : y ≤ 256) (w : World) :
    Calls Try.prog 53 #[.int .u64 1, .int .u64 y] w fun e w' => e = .returned (.tuple #[.int .u64 0, .int .u64 y]) ∧ w' = w := by
  go_enter Try.func53, Try.ntmps53
  go_wp2_with (go_at_call 76; refine (xmul64_1 _ hy _).mono ?_; rintro e w1 ⟨rfl, hw1⟩; subst hw1)
  go_ret2
  exact ⟨rfl, rfl⟩
theorem xint_size : (Try.prog.info? 3).map (·.size) = some 1 := by kernel_rfl
theorem xtake_get {cu : List Value} {p : Nat} {v : Value} (h : cu.take p = List.replicate p v) {j : Nat} (hj : j < p) : cu[j]? = some v := by
  have := congrArg (fun l => l[j]?) h
  simp only [List.getElem?_take, hj, if_true, List.getElem?_replicate] at this
  exact this
theorem xtake_splice {cu : List Value} {p m : Nat} {v : Value} (h : cu.take p = List.replicate p v) : (splice cu p (List.replicate m v)).take (p + m) = List.replicate (p + m) v := by
  unfold splice
  rw [h, ← List.append_assoc, List.take_append_of_le_length (by simp), List.take_of_length_le (by simp), List.replicate_append_replicate]
theorem xrow_cell {w : World} {g : Nat} {cu : List Value} {t : TypeId} (h : w.heap[g]? = some (.cells cu.toArray t (0, 0))) (j : Nat) : w.cell? ⟨g, j, none⟩ = cu[j]? := by
  rw [cell_of_row w g j cu.toArray t (0, 0) h]
  simp
theorem xcopy_any {ty : TypeId} {w W : World} {g o1 dLen dCap b o sLen sCap m : Nat} {cu : List Value} {v : Value} (hrow : W.heap[g]? = some (.cells cu.toArray 3 (0, 0))) (hm : m = Nat.min sLen dLen) (hsrc : ∀ j, j < m → W.cell? ⟨b, o + j, none⟩ = some v) (hfit : o1 + m ≤ cu.length) (h1 : v.oneCell' = true) (hg : Gr w W) (hw : w.heap.size ≤ g) :
    ∃ W', (Builtin.copy_ #[25, 25] ty #[.slice (some ⟨g, o1, none⟩) dLen dCap, .slice (some ⟨b, o, none⟩) sLen sCap]).run Try.prog W = .ok (.int .i64 m) W' ∧ W'.heap[g]? = some (.cells (splice cu o1 (List.replicate m v)).toArray 3 (0, 0)) ∧ Gr w W' := by
  have hrun := run_copy_row (P := Try.prog) W 25 25 ty 3 g o1 dLen dCap ⟨b, o, none⟩ sLen sCap cu.toArray 3 (List.replicate m v) Try.underlying25 xint_size hrow (by rw [List.length_replicate]; exact hm)
    (by
      intro j u hj
      have hjm : j < m := by
        have := (List.getElem?_eq_some_iff.1 hj).1
        rwa [List.length_replicate] at this
      have e : (⟨b, o, none⟩ : Addr).add j = ⟨b, o + j, none⟩ := by unfold Addr.add; split <;> simp_all
      rw [List.getElem?_replicate, if_pos hjm] at hj
      rw [e, hsrc j hjm]
      exact hj) (by simpa using hfit) (fun u hu => by rw [(List.mem_replicate.1 hu).2]; exact h1)
  rw [List.length_replicate] at hrun
  refine ⟨W.setRow g (cu.toArray.toList.take o1 ++ List.replicate m v ++ cu.toArray.toList.drop (o1 + m)).toArray, hrun, ?_, below_setRow hg hw _⟩
  have := setRow_heap W g _ (cu.toArray.toList.take o1 ++ List.replicate m v ++ cu.toArray.toList.drop (o1 + m)).toArray 3 _ hrow
  simpa [splice] using this

set_option maxHeartbeats 4000000 in
theorem rep_any (b o cap : Nat) (x : Int) (c : Nat) (w : World) (hcell : w.cell? ⟨b, o, none⟩ = some (.int .i64 x)) (c1 : 1 ≤ c) (c2 : c ≤ 256) :
    Calls Try.prog 35 #[.slice (some ⟨b, o, none⟩) 1 cap, .int .i64 c] w fun e w' => (∃ g, e = .returned (.slice (some ⟨g, 0, none⟩) c c) ∧ w.heap.size ≤ g ∧ FarS w' g c c (fun _ => x)) ∧ Gr w w' := by
  have hmk := run_make_row' (P := Try.prog) 25 3 (.int .i64 0) 8 Try.underlying25 info_int rfl .i64 .i64 c (by omega) (by omega) w
  obtain ⟨w2, hw2⟩ : ∃ w2, w2 = w.alloc (.cells (madeCells #[.int .i64 0] c) 3) := ⟨_, rfl⟩
  obtain ⟨cur, hcur⟩ : ∃ cur : List Value, cur = (madeCells #[.int .i64 0] c).toList := ⟨_, rfl⟩
  have hg2 : Gr w w2 := hw2 ▸ (Gr.refl w).alloc _
  have hl : cur.length = c := by rw [hcur]; simp [madeCells]
  have hrow : w2.heap[w.heap.size]? = some (.cells cur.toArray 3 (0, 0)) := by rw [hw2, hcur]; exact Go.Deep.blk_alloc_new _ _
  rw [← hw2] at hmk
  obtain ⟨W3, hC, hrow3, hg3⟩ := xcopy_any (ty := 3) (dLen := c) (dCap := c) (b := b) (o := o) (sLen := 1) (sCap := cap) (m := 1) (o1 := 0) (v := .int .i64 x) hrow (Nat.min_eq_left c1).symm (fun j hj => by rw [show j = 0 by omega, Nat.add_zero]; exact cell_gr hcell hg2) (by omega) rfl hg2 (Nat.le_refl _)
  have hT : (splice cur 0 (List.replicate 1 (Value.int .i64 x))).take 1 = List.replicate 1 (Value.int .i64 x) := by
    have := xtake_splice (cu := cur) (p := 0) (m := 1) (v := .int .i64 x) (by simp)
    rwa [Nat.zero_add] at this
  have hL : (splice cur 0 (List.replicate 1 (Value.int .i64 x))).length = c := by rw [length_splice _ _ _ (by simp; omega)]; exact hl
  generalize splice cur 0 (List.replicate 1 (Value.int .i64 x)) = cu3 at *
  have HR3 := hide hrow3
  have HG3 := hide hg3
  have HT := hide hT
  have HL := hide hL
  clear hrow hg2 hrow3 hg3 hT hcur hl hw2 hL
  go_enter Try.func35, Try.ntmps35
  go_wp2_with (go_at_call 53; refine (xmul_1 _ c2 _).mono ?_; rintro e w1 ⟨rfl, hw1⟩; subst hw1)
  go_loopw [8] (fun s u => ∃ (p : Nat) (cu : List Value), 1 ≤ p ∧ p ≤ c ∧ s = .int .i64 p ∧ u.heap[w1.heap.size]? = some (.cells cu.toArray 3 (0, 0)) ∧ cu.length = c ∧ cu.take p = List.replicate p (.int .i64 x) ∧ Gr w1 u) (fun s _ => c - (intOf s).toNat)
  case atStart => exact ⟨1, cu3, Nat.le_refl _, c1, rfl, HR3.out, HL.out, HT.out, HG3.out⟩
  case round =>
    clear hmk hC
    obtain ⟨p, cu, p1, p2, rfl, hrow, hl, ht, hgr⟩ := hrel
    by_cases hlt : p < c
    · obtain ⟨m, hm⟩ : ∃ m, m = Nat.min p (c - p) := ⟨_, rfl⟩
      have hm2 : m ≤ p ∧ m ≤ c - p ∧ 1 ≤ m := by
        rw [hm]
        exact ⟨Nat.min_le_left _ _, Nat.min_le_right _ _, Nat.le_min.2 ⟨p1, by omega⟩⟩
      obtain ⟨W4, hC4, hrow4, hg4⟩ := xcopy_any (ty := 3) (dLen := c - p) (dCap := c - p) (b := w1.heap.size) (o := 0) (sLen := p) (sCap := c) (m := m) (o1 := p) (v := .int .i64 x) (W := wr.drew) hrow hm (fun j hj => by rw [Nat.zero_add, xrow_cell (w := wr.drew) hrow]; exact xtake_get ht (by omega)) (by omega) rfl hgr.drew (Nat.le_refl _)
      have HT4 := hide (xtake_splice (cu := cu) (p := p) (m := m) ht)
      have HL4 : Hid ((splice cu p (List.replicate m (Value.int .i64 x))).length = c) := hide (by rw [length_splice _ _ _ (by simp; omega)]; exact hl)
      have HR4 := hide hrow4
      have HG4 := hide hg4
      clear hrow4 hg4 hm hrow ht hl
      have p0 : 0 ≤ (p : Int) := by omega
      have pc : (p : Int) < c := by omega
      have hne : ¬ c = p := by omega
      go_wp2
      go_region
      go_wp2
      go_roundw
      case rel => exact ⟨p + m, _, by omega, by omega, by go_num, HR4.out, HL4.out, HT4.out, HG4.out⟩
      case measure => simp [intOf]; omega
    · have hpc : c = p := by omega
      subst hpc
      have HS : Hid (FarS wr w1.heap.size c c (fun _ => x)) := hide ⟨Nat.le_refl _, by unfold maxLen; omega, fun _ => .int .i64 x, ⟨cu.toArray, hrow, by simpa using hl, fun i hi => by simpa using xtake_get ht hi⟩, fun _ _ => rfl⟩
      clear hrow ht hl
      go_wp2
      go_ret
      exact ⟨⟨_, rfl, Nat.le_refl _, HS.out⟩, hgr⟩
end Go.Proofs.Ytigoehoaplndiaa
