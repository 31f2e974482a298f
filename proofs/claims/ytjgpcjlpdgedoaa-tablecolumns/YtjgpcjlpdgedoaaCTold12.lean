/- The law's example: it answers true. No condition. -/
import Derived.Test.YtjgpcjlpdgedoaaCMake12
namespace Go.Proofs.Ytjgpcjlpdgedoaa
open Go.RowKit
set_option maxRecDepth 20000

def d12 : Nat → Int := fun i => if i = 0 then 0 else if i = 1 then 5 else 7
def z12 : Nat → Int := fun i => if i = 0 then 0 else 2
def g12 : Nat → Int := fun i => if i = 0 then 0 else if i = 1 then 11 else if i = 2 then 7 else 0
theorem told12_edge : ∀ (c : Fin 3) (s : Fin 4) (m : Fin 3), nearF 3 1 3 f9 (c.val : Int) (s.val : Int) = (m.val : Int) → d12 c.val ≤ d12 m.val + f9 m.val := by decide
theorem told12_sprd : Sprd (nearF 3 1 3 f9) f9 3 (goalL ((0 : Nat) : Int)) d12 := by
  obtain ⟨hm, -⟩ := sds_of f9_byte told_may
  have t0 : Told (nearF 3 1 3 f9) f9 3 (goalL ((0 : Nat) : Int)) 0 0 := told_goal
  have t1 : Told (nearF 3 1 3 f9) f9 3 (goalL ((0 : Nat) : Int)) 1 5 := .step 1 0 3 0 t0 (by decide) (by decide) (by decide) (by decide) (by decide) (by decide) (by decide)
  have t2 : Told (nearF 3 1 3 f9) f9 3 (goalL ((0 : Nat) : Int)) 2 7 := .step 2 1 3 5 t1 (by decide) (by decide) (by decide) (by decide) (by decide) (by decide) (by decide)
  refine Sprd.of (gph_of hm f9_byte) (fun c hc => ?_) (fun c hc _ => ?_) (fun x hx c e => ?_) (fun c m s a1 a2 a3 a4 a5 _ _ _ => ?_)
  · rcases (by omega : c = 0 ∨ c = 1 ∨ c = 2) with rfl | rfl | rfl <;> decide
  · rcases (by omega : c = 0 ∨ c = 1 ∨ c = 2) with rfl | rfl | rfl
    · exact t0
    · exact t1
    · exact t2
  · obtain rfl := List.mem_singleton.1 hx
    simp only at e
    obtain rfl : c = 0 := by omega
    decide
  · have h := told12_edge ⟨c, a1⟩ ⟨s.toNat, by omega⟩ ⟨m, a2⟩
    simp only at h
    exact h (by rw [show ((s.toNat : Nat) : Int) = s by omega]; exact a5)
theorem told12_opn : Opn f9 3 z12 2 := by
  refine ⟨fun i hi => ?_, fun i hi => ?_⟩
  · rcases (by omega : i = 0 ∨ i = 1) with rfl | rfl <;> decide
  · obtain rfl : i = 0 := by omega
    decide
theorem told12_tab {G : Nat → Int} (h : TabP (Col (nearF 3 1 3 f9) f9 3) z12 2 G 2) : G 0 = 0 ∧ G 1 = 11 ∧ G 2 = 7 ∧ G 3 = 0 := by
  obtain ⟨a, a1, a2⟩ := h 0 (by omega)
  obtain ⟨b, b1, b2⟩ := h 1 (by omega)
  have p1 := a2 0 (by omega)
  have p2 := a2 1 (by omega)
  have p3 := b2 0 (by omega)
  have p4 := b2 1 (by omega)
  have q1 := a1.uniq told12_sprd (c := 0) (by omega)
  have q2 := a1.uniq told12_sprd (c := 2) (by omega)
  have q3 := b1.uniq told_sprd (c := 0) (by omega)
  have q4 := b1.uniq told_sprd (c := 2) (by omega)
  refine ⟨?_, ?_, ?_, ?_⟩
  · exact p1.trans q1
  · exact p3.trans q3
  · exact p2.trans q2
  · exact p4.trans q4
theorem two_ints12 (w : World) : SlI (w.alloc (.cells #[.int .i64 0, .int .i64 2] 3)) (some ⟨w.heap.size, 0, none⟩) 2 z12 := by
  have e : (w.alloc (.cells #[.int .i64 0, .int .i64 2] 3)).ownsRow w.heap.size 3 1 (.slice (some ⟨w.heap.size, 0, none⟩) 2 2) 2 (cel .i64 2 z12) :=
    ⟨rfl, .inr ⟨_, 2, _, rfl, Nat.le_refl _, Go.Deep.blk_alloc_new _ _, Nat.le_refl _, by unfold maxLen; omega, rfl, by simp [cel, List.range, List.range.loop, z12]⟩⟩
  obtain ⟨c', a', e', h3⟩ := SlI.of_own e
  cases e'
  exact h3.2.2
theorem four_ints12 (w : World) : SlI (w.alloc (.cells #[.int .i64 0, .int .i64 11, .int .i64 7, .int .i64 0] 3)) (some ⟨w.heap.size, 0, none⟩) 4 g12 := by
  have e : (w.alloc (.cells #[.int .i64 0, .int .i64 11, .int .i64 7, .int .i64 0] 3)).ownsRow w.heap.size 3 1 (.slice (some ⟨w.heap.size, 0, none⟩) 4 4) 4 (cel .i64 4 g12) :=
    ⟨rfl, .inr ⟨_, 4, _, rfl, Nat.le_refl _, Go.Deep.blk_alloc_new _ _, Nat.le_refl _, by unfold maxLen; omega, rfl, by simp [cel, List.range, List.range.loop, g12]⟩⟩
  obtain ⟨c', a', e', h3⟩ := SlI.of_own e
  cases e'
  exact h3.2.2
theorem SlI.same {w : World} {a : Option Addr} {n : Nat} {f g : Nat → Int} (h : SlI w a n f) (k : ∀ i, i < n → g i = f i) : SlI w a n g := by
  rcases h with h | ⟨b, o, e, hb, hc⟩
  · exact .inl h
  · exact .inr ⟨b, o, e, hb, fun i hi => by rw [k i hi]; exact hc i hi⟩

set_option maxHeartbeats 1000000 in
theorem told12_any (w : World) : Calls Try.prog 8 #[] w fun e w' => e = .returned (.bool true) ∧ Gr w w' := by
  have hb := three_bytes w
  obtain ⟨w1, hw1⟩ : ∃ w1, w1 = w.alloc (.cells #[.int .u8 5, .int .u8 2, .int .u8 9] 5) := ⟨_, rfl⟩
  have g1 : Gr w w1 := hw1 ▸ (Gr.refl w).alloc _
  rw [← hw1] at hb
  have hs := two_ints12 w1
  obtain ⟨w2, hw2⟩ : ∃ w2, w2 = w1.alloc (.cells #[.int .i64 0, .int .i64 2] 3) := ⟨_, rfl⟩
  have g2 : Gr w1 w2 := hw2 ▸ (Gr.refl w1).alloc _
  rw [← hw2, show w1.heap.size = w.heap.size + 1 by rw [hw1, World.size_alloc]] at hs
  obtain ⟨hm, -⟩ := sds_of f9_byte told_may
  go_enter Try.func8, Try.ntmps8
  go_wp2_with fail
  rw [← hw1, ← hw2]
  clear hw1 hw2
  generalize w.heap.size = B at *
  refine (make_yes (hb.gr g2) hs hm told12_opn).mono ?_
  rintro e w3 ⟨⟨g, cf, F, rfl, hge, hfar, hT⟩, hg3⟩
  obtain ⟨e0, e1, e2, e3⟩ := told12_tab hT
  have hsi : SlI w3 (some ⟨g, 0, none⟩) 4 g12 := hfar.sli.same fun i hi => by
    rcases (by omega : i = 0 ∨ i = 1 ∨ i = 2 ∨ i = 3) with rfl | rfl | rfl | rfl
    · exact e0.symm
    · exact e1.symm
    · exact e2.symm
    · exact e3.symm
  have hI := four_ints12 w3
  have hgr := (g1.trans g2).trans hg3
  obtain ⟨w4, hw4⟩ : ∃ w4, w4 = w3.alloc (.cells #[.int .i64 0, .int .i64 11, .int .i64 7, .int .i64 0] 3) := ⟨_, rfl⟩
  have g4 : Gr w3 w4 := hw4 ▸ (Gr.refl w3).alloc _
  rw [← hw4] at hI
  clear hT e0 e1 e2 e3 hs hb hg3 g1 g2 hge hfar
  go_wp2_with fail
  rw [← hw4]
  clear hw4
  generalize w3.heap.size = B3 at *
  refine (ints_same _ _ 4 _ _ g12 w4 (hsi.gr g4) hI (by omega)).mono ?_
  rintro e w5 ⟨rfl, hd5⟩
  go_wp2_with fail
  go_ret
  exact ⟨rfl, (hgr.trans g4).trans hd5.gr⟩
end Go.Proofs.Ytjgpcjlpdgedoaa
