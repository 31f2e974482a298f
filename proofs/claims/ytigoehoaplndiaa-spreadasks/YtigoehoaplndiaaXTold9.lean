/- The example of the document: it answers true. No condition. -/
import Derived.Test.YtigoehoaplndiaaXSpread9
namespace Go.Proofs.Ytigoehoaplndiaa
open Go.RowKit
set_option maxRecDepth 20000

theorem FarS.sli {w : World} {g c n : Nat} {F : Nat → Int} (h : FarS w g c n F) : SlI w (some ⟨g, 0, none⟩) n F := by
  obtain ⟨c', a', e, h3⟩ := SlI.of_own (h.own (Nat.zero_le _))
  cases e
  exact h3.2.2
def f9 : Nat → Int := fun i => if i = 0 then 5 else if i = 1 then 2 else 9
def d9 : Nat → Int := fun i => if i = 0 then 11 else if i = 1 then 9 else 0
theorem told_edge : ∀ (c : Fin 3) (s : Fin 4) (m : Fin 3), nearF 3 1 3 f9 (c.val : Int) (s.val : Int) = (m.val : Int) → d9 c.val ≤ d9 m.val + f9 m.val := by decide
theorem told_may : mayS 3 1 3 f9 [((2, 4, 0) : Sd)] = true := by decide
theorem f9_byte : ∀ i, i < 3 → 0 ≤ f9 i ∧ f9 i ≤ 255 := by
  intro i hi
  rcases (by omega : i = 0 ∨ i = 1 ∨ i = 2) with rfl | rfl | rfl <;> decide
theorem told_sprd : Sprd (nearF 3 1 3 f9) f9 3 [((2, 4, 0) : Sd)] d9 := by
  obtain ⟨hm, hs⟩ := sds_of f9_byte told_may
  have t2 : Told (nearF 3 1 3 f9) f9 3 [((2, 4, 0) : Sd)] 2 0 := .seed 2 (2, 4, 0) (.head _) rfl
  have t1 : Told (nearF 3 1 3 f9) f9 3 [((2, 4, 0) : Sd)] 1 9 := .step 1 2 1 0 t2 (by decide) (by decide) (by decide) (by decide) (by decide) (by decide) (by decide)
  have t0 : Told (nearF 3 1 3 f9) f9 3 [((2, 4, 0) : Sd)] 0 11 := .step 0 1 1 9 t1 (by decide) (by decide) (by decide) (by decide) (by decide) (by decide) (by decide)
  refine Sprd.of (gph_of hm f9_byte) (fun c hc => ?_) (fun c hc _ => ?_) (fun x hx c e => ?_) (fun c m s a1 a2 a3 a4 a5 _ _ _ => ?_)
  · rcases (by omega : c = 0 ∨ c = 1 ∨ c = 2) with rfl | rfl | rfl <;> decide
  · rcases (by omega : c = 0 ∨ c = 1 ∨ c = 2) with rfl | rfl | rfl
    · exact t0
    · exact t1
    · exact t2
  · obtain rfl := List.mem_singleton.1 hx
    simp only at e
    obtain rfl : c = 2 := by omega
    decide
  · have h := told_edge ⟨c, a1⟩ ⟨s.toNat, by omega⟩ ⟨m, a2⟩
    simp only at h
    exact h (by rw [show ((s.toNat : Nat) : Int) = s by omega]; exact a5)
theorem three_ints (w : World) (x y z : Int) (F : Nat → Int) (h0 : F 0 = x) (h1 : F 1 = y) (h2 : F 2 = z) : SlI (w.alloc (.cells #[.int .i64 x, .int .i64 y, .int .i64 z] 3)) (some ⟨w.heap.size, 0, none⟩) 3 F := by
  have e : (w.alloc (.cells #[.int .i64 x, .int .i64 y, .int .i64 z] 3)).ownsRow w.heap.size 3 1 (.slice (some ⟨w.heap.size, 0, none⟩) 3 3) 3 (cel .i64 3 F) :=
    ⟨rfl, .inr ⟨_, 3, _, rfl, Nat.le_refl _, Go.Deep.blk_alloc_new _ _, Nat.le_refl _, by unfold maxLen; omega, rfl, by simp [cel, List.range, List.range.loop, h0, h1, h2]⟩⟩
  obtain ⟨c', a', e', h3⟩ := SlI.of_own e
  cases e'
  exact h3.2.2
theorem three_bytes (w : World) : Sl (w.alloc (.cells #[.int .u8 5, .int .u8 2, .int .u8 9] 5)) (some ⟨w.heap.size, 0, none⟩) 3 f9 := by
  have e : (w.alloc (.cells #[.int .u8 5, .int .u8 2, .int .u8 9] 5)).ownsRow w.heap.size 5 1 (.slice (some ⟨w.heap.size, 0, none⟩) 3 3) 3 (cel .u8 3 f9) :=
    ⟨rfl, .inr ⟨_, 3, _, rfl, Nat.le_refl _, Go.Deep.blk_alloc_new _ _, Nat.le_refl _, by unfold maxLen; omega, rfl, by simp [cel, List.range, List.range.loop, f9]⟩⟩
  obtain ⟨c', a', e', h3⟩ := Sl.of_own e f9_byte
  cases e'
  exact h3.2.2

set_option maxHeartbeats 1000000 in
theorem told9_any (w : World) : Calls Try.prog 8 #[] w fun e w' => e = .returned (.bool true) ∧ Gr w w' := by
  have hb := three_bytes w
  obtain ⟨w1, hw1⟩ : ∃ w1, w1 = w.alloc (.cells #[.int .u8 5, .int .u8 2, .int .u8 9] 5) := ⟨_, rfl⟩
  have g1 : Gr w w1 := hw1 ▸ (Gr.refl w).alloc _
  rw [← hw1] at hb
  have hs := seeds_one w1 (2, 4, 0)
  simp only at hs
  obtain ⟨w2, hw2⟩ : ∃ w2, w2 = w1.alloc (.cells #[.int .i64 2, .int .i64 4, .int .i64 0] 39) := ⟨_, rfl⟩
  have g2 : Gr w1 w2 := hw2 ▸ (Gr.refl w1).alloc _
  rw [← hw2, show w1.heap.size = w.heap.size + 1 by rw [hw1, World.size_alloc]] at hs
  obtain ⟨hm, hsd⟩ := sds_of f9_byte told_may
  go_enter Try.func8, Try.ntmps8
  go_wp2_with fail
  rw [← hw1, ← hw2]
  clear hw1 hw2
  generalize w.heap.size = B at *
  refine (spread_yes (hb.gr g2) hs (.inr ⟨_, _, rfl⟩) told_may hsd (by omega) (by omega) (by omega)).mono ?_
  rintro e w3 ⟨⟨g, cf, F, rfl, hge, hfar, hsp, hbd⟩, hg3⟩
  have e0 : F 0 = 11 := hsp.uniq told_sprd (c := 0) (by omega)
  have e1 : F 1 = 9 := hsp.uniq told_sprd (c := 1) (by omega)
  have e2 : F 2 = 0 := hsp.uniq told_sprd (c := 2) (by omega)
  have hsi := hfar.sli
  have hI := three_ints w3 11 9 0 F e0 e1 e2
  have hgr := (g1.trans g2).trans hg3
  obtain ⟨w4, hw4⟩ : ∃ w4, w4 = w3.alloc (.cells #[.int .i64 11, .int .i64 9, .int .i64 0] 3) := ⟨_, rfl⟩
  have g4 : Gr w3 w4 := hw4 ▸ (Gr.refl w3).alloc _
  rw [← hw4] at hI
  clear hsp hbd e0 e1 e2 hs hb hg3 g1 g2 hge
  go_wp2_with fail
  rw [← hw4]
  clear hw4
  generalize w3.heap.size = B3 at *
  refine (ints_same _ _ 3 _ _ F w4 (hsi.gr g4) hI (by omega)).mono ?_
  rintro e w5 ⟨rfl, hd5⟩
  go_wp2_with fail
  go_ret
  exact ⟨rfl, (hgr.trans g4).trans hd5.gr⟩
end Go.Proofs.Ytigoehoaplndiaa
