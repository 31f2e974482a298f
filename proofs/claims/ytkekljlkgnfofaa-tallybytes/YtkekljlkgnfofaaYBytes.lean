/- What tally.Bytes answers: the six counts' bytes, the lowest first, in memory of its own. Conditions: the counts are numbers of 64 bits. -/
import Derived.Test.YtkekljlkgnfofaaYBelow
import Derived.Test.YtkekljlkgnfofaaTWalks2
import Derived.Test.YtkekljlkgnfofaaTMade
import Derived.Laws.AppendOwnNone
namespace Go.Proofs.Ytkekljlkgnfofaa
open Go.RowKit

/-- byte k of the counts -/
def bytF (f : Nat → Int) (k : Nat) : Int := f (k / 8) / (256 : Int) ^ (k % 8) % 256
theorem bytF_bd (f : Nat → Int) (k : Nat) : 0 ≤ bytF f k ∧ bytF f k ≤ 255 := by
  unfold bytF
  omega
theorem bytF_at (f : Nat → Int) (i j : Nat) (hj : j < 8) : bytF f (8 * i + j) = f i / (256 : Int) ^ j % 256 := by
  unfold bytF
  rw [show (8 * i + j) / 8 = i by omega, show (8 * i + j) % 8 = j by omega]
theorem quo_step (x : Int) (j : Nat) : x / (256 : Int) ^ j / 256 = x / (256 : Int) ^ (j + 1) := by
  rw [Int.pow_succ, Int.ediv_ediv_of_nonneg (Int.pow_nonneg (by omega))]
theorem quo_u {x : Int} (hx : U x) (j : Nat) : U (x / (256 : Int) ^ j) := by
  unfold U at *
  have hp : (0 : Int) < (256 : Int) ^ j := Int.pow_pos (by omega)
  refine ⟨Int.ediv_nonneg hx.1 (Int.le_of_lt hp), ?_⟩
  have := Int.ediv_le_self ((256 : Int) ^ j) hx.1
  omega
theorem index6 (f : Nat → Int) (i : Nat) (hi : i < 6) (w : World) : (Instr.index 33 (.agg #[.int .u64 (f 0), .int .u64 (f 1), .int .u64 (f 2), .int .u64 (f 3), .int .u64 (f 4), .int .u64 (f 5)]) (.int .i64 (i : Int))).run Try.prog w = .ok (.int .u64 (f i)) w := by
  rcases (by omega : i = 0 ∨ i = 1 ∨ i = 2 ∨ i = 3 ∨ i = 4 ∨ i = 5) with rfl | rfl | rfl | rfl | rfl | rfl <;> kernel_rfl
theorem make48 (w : World) : (Instr.makeSlice 31 (.int .i64 0) (.int .i64 48)).run Try.prog w = .ok (.slice (some ⟨w.heap.size, 0, none⟩) 0 48) (w.alloc (.cells (madeCells #[.int .u8 0] 48) 5)) := by
  obtain ⟨i0, hi, hz0, hz1, hz2⟩ := info_parts info_u8
  have hr := run_make (P := Try.prog) w 31 5 i0 (.int .u8 0) Try.underlying31 hi hz0 .i64 .i64 0 48 (by omega) (by omega) (by rw [hz2]; omega) (by omega)
  simp only [hz1, Nat.mul_one] at hr
  exact hr
theorem byte_step {w wr w3 : World} {f : Nat → Int} {M g c : Nat} {x : Int} {o : Obj} {v' : Value} (ho : wr.ownsRow w.heap.size 5 1 (.slice (some ⟨g, 0, none⟩) M c) M (cel .u8 M (bytF f))) (ho' : w3.ownsRow w.heap.size 5 1 v' (M + 1) (cel .u8 M (bytF f) ++ [.int .u8 (x % 256)])) (hg : (wr.alloc o).grownBy w3 (Value.slice (some ⟨g, 0, none⟩) M c).ownBlock) (h : Gr w wr) (hb : bytF f M = x % 256) :
    ∃ g3 c3, v' = .slice (some ⟨g3, 0, none⟩) (M + 1) c3 ∧ w3.ownsRow w.heap.size 5 1 (.slice (some ⟨g3, 0, none⟩) (M + 1) c3) (M + 1) (cel .u8 (M + 1) (bytF f)) ∧ Gr w w3 := by
  rw [← hb, ← cel_succ] at ho'
  have hl := ho.lt
  obtain ⟨a1, c1, rfl, _, _, h3⟩ := own_form ho'
  rcases h3 with h3 | ⟨g3, rfl, _⟩
  · omega
  · exact ⟨g3, c1, rfl, ho', Gr.grown (h.alloc _) hg (fun q e => (hl q e).1)⟩

set_option maxHeartbeats 4000000 in
theorem bytes_any (f : Nat → Int) (w : World) (hf : ∀ i, i < 6 → U (f i)) :
    Calls Try.prog 12 #[.agg #[.int .u64 (f 0), .int .u64 (f 1), .int .u64 (f 2), .int .u64 (f 3), .int .u64 (f 4), .int .u64 (f 5)]] w fun e w' => (∃ g c, e = .returned (.slice (some ⟨g, 0, none⟩) 48 c) ∧ w'.ownsRow w.heap.size 5 1 (.slice (some ⟨g, 0, none⟩) 48 c) 48 (cel .u8 48 (bytF f))) ∧ Gr w w' := by
  obtain ⟨i0, hi, hz0, hz1, hz2⟩ := info_parts info_u8
  have hmk := make48
  go_enter Try.func12, Try.ntmps12
  go_wp2_with fail
  refine (counts_any f _).mono ?_
  rintro e w1 ⟨rfl, hg1⟩
  have hw1 : Gr w w1 := ((Gr.refl w).alloc _).trans hg1
  clear hg1
  go_wp2_with fail
  go_loopw [4, 11] (fun v i u => ∃ (k g c : Nat), k ≤ 6 ∧ i = .int .i64 k ∧ v = .slice (some ⟨g, 0, none⟩) (8 * k) c ∧ u.ownsRow w.heap.size 5 1 (.slice (some ⟨g, 0, none⟩) (8 * k) c) (8 * k) (cel .u8 (8 * k) (bytF f)) ∧ Gr w u) (fun _ i _ => 6 - (intOf i).toNat)
  case atStart =>
    have hs := hw1.size
    refine ⟨0, w1.heap.size + 1, 48, Nat.zero_le _, rfl, by simp, ?_, (hw1.alloc _).alloc _⟩
    have := World.ownsRow_made (base := w.heap.size) (w1.alloc (.cells #[.int .u64 (f 0), .int .u64 (f 1), .int .u64 (f 2), .int .u64 (f 3), .int .u64 (f 4), .int .u64 (f 5)] 33)) (madeCells #[.int .u8 0] 48) 48 (by simp only [World.size_alloc]; omega) (by unfold maxLen; omega) (e := 5) (size := 1) (by rw [size_madeCells, Nat.mul_one])
    simp only [World.size_alloc] at this
    exact this
  case round =>
    obtain ⟨k, g, c, hk, rfl, rfl, hown, hgr⟩ := hrel
    by_cases h6 : k = 6
    · subst h6
      have HO := hide hown
      clear hown
      go_wp2
      go_ret
      exact ⟨⟨g, c, rfl, HO.out⟩, hgr⟩
    · have ix := index6 f k (by omega)
      have hu := hf k (by omega)
      have HO := hide hown
      clear hown
      have d6 : (k : Int) < 6 := by omega
      go_wp2_with fail
      go_loopw [4, 6, 14] (fun v x j u => ∃ (m g c : Nat), m ≤ 8 ∧ j = .int .i64 m ∧ x = .int .u64 (f k / (256 : Int) ^ m) ∧ v = .slice (some ⟨g, 0, none⟩) (8 * k + m) c ∧ u.ownsRow w.heap.size 5 1 (.slice (some ⟨g, 0, none⟩) (8 * k + m) c) (8 * k + m) (cel .u8 (8 * k + m) (bytF f)) ∧ Gr w u) (fun _ _ j _ => 8 - (intOf j).toNat)
      case atStart => exact ⟨0, g, c, Nat.zero_le _, rfl, by simp, rfl, HO.out, hgr⟩
      case round =>
        clear HO hgr
        obtain ⟨m, g, c, hm, rfl, rfl, rfl, hown, hgr⟩ := hrel
        by_cases h8 : m = 8
        · subst h8
          have HO := hide hown
          clear hown
          go_wp2
          go_roundw
          case rel => exact ⟨k + 1, g, c, by omega, by go_num, rfl, HO.out, hgr⟩
          case measure => simp [intOf]; omega
        · have HO := hide hown
          clear hown
          have hq := quo_u hu m
          obtain ⟨x, hx⟩ : ∃ x, f k / (256 : Int) ^ m = x := ⟨_, rfl⟩
          rw [hx] at hq ⊢
          have HX := hide hx
          clear hx
          unfold U at hq
          obtain ⟨M, hM⟩ : ∃ M, 8 * k + m = M := ⟨_, rfl⟩
          have hM2 : M ≤ 47 := by omega
          rw [hM] at HO ⊢
          go_wp2_with (at_builtin; go_loud (refine wpList_append_own _ rfl _ _ 31 rfl w.heap.size 5 i0 (.int .u8 0) 1 1 Try.underlying31 hi hz0 hz1 hz2 rfl (by decide) (.slice (some ⟨g, 0, none⟩) M c) M (cel .u8 M (bytF f)) rfl (own_gr HO.out ((Gr.refl wr).alloc _)) ⟨wr.heap.size, 0, none⟩ 1 1 [.int .u8 (x % 256)] rfl rfl (alloc_one wr _ _) (by simp [Value.oneCell']) (by unfold maxLen; omega) (by omega) (by have := hgr.size; simp only [World.size_alloc]; omega) ?_; intro v' w3 hown3 hgrow3 hnil3))
          obtain ⟨g3, c3, rfl, ho3, hg3⟩ := byte_step HO.out hown3 hgrow3 hgr (by rw [← hM, bytF_at _ _ _ (by omega), HX.out])
          clear hown3 hgrow3 hnil3
          have HO3 := hide ho3
          clear ho3
          go_roundw
          case rel => exact ⟨m + 1, g3, c3, by omega, by go_num, by rw [← quo_step, HX.out], by rw [← hM]; rfl, by have := HO3.out; rw [← hM] at this; exact this, hg3⟩
          case measure => simp [intOf]; omega

end Go.Proofs.Ytkekljlkgnfofaa
