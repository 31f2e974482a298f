/- The example of the document: it answers true. No condition. -/
import Derived.Test.YtobankjdgdjehaaSCpt8
import Derived.Test.YtobankjdgdjehaaSRow8
namespace Go.Proofs.Ytobankjdgdjehaa
open Go.RowKit
set_option maxRecDepth 20000

theorem seeds_two (w : World) (x y : Sd) : SlS (w.alloc (.cells #[.int .i64 x.1, .int .i64 x.2.1, .int .i64 x.2.2, .int .i64 y.1, .int .i64 y.2.1, .int .i64 y.2.2] 38)) (some ⟨w.heap.size, 0, none⟩) 2 2 [x, y] := by
  refine .inr ⟨_, rfl, rfl, Nat.le_refl _, by unfold maxLen; omega, .inr ⟨_, 0, rfl, by simp, fun j u hu => ?_⟩⟩
  rw [Nat.zero_add, cell_of_row _ _ j _ _ _ (Go.Deep.blk_alloc_new _ _)]
  have hj : j < 6 := by have := (List.getElem?_eq_some_iff.1 hu).1; simpa [flatS, encS] using this
  rcases (by omega : j = 0 ∨ j = 1 ∨ j = 2 ∨ j = 3 ∨ j = 4 ∨ j = 5) with rfl | rfl | rfl | rfl | rfl | rfl <;> exact hu
theorem told_srt : srt [((3, 1, 9) : Sd), (3, 1, 7)] = [(3, 1, 7), (3, 1, 9)] := by
  refine srt_of_rise ?_ fun x => ?_
  · refine List.pairwise_cons.2 ⟨fun y hy => ?_, List.pairwise_singleton _ _⟩
    have : y = (3, 1, 9) := by simpa using hy
    subst this
    decide
  · simp only [List.mem_cons, List.not_mem_nil, or_false]
    exact Or.comm
set_option maxHeartbeats 1000000 in
theorem told8_any (w : World) : Calls Try.prog 8 #[] w fun e w' => e = .returned (.bool true) ∧ Gr w w' := by
  have hs := seeds_two w (3, 1, 9) (3, 1, 7)
  simp only at hs
  obtain ⟨w1, hw1⟩ : ∃ w1, w1 = w.alloc (.cells #[.int .i64 3, .int .i64 1, .int .i64 9, .int .i64 3, .int .i64 1, .int .i64 7] 38) := ⟨_, rfl⟩
  have g1 : Gr w w1 := hw1 ▸ (Gr.refl w).alloc _
  rw [← hw1] at hs
  go_enter Try.func8, Try.ntmps8
  go_wp2_with fail
  rw [← hw1]
  clear hw1
  generalize w.heap.size = B at *
  refine (sort_any _ 2 2 _ w1 hs (.inr ⟨_, _, rfl⟩) (by omega)).mono ?_
  rintro e w2 ⟨⟨a2, c2, m, hm, rfl, hown⟩, hg2⟩
  rw [told_srt] at hm hown
  have hm2 : m = 2 := hm
  subst hm2
  obtain ⟨a3, c3, e3, hs3⟩ := SlS.of_own hown rfl
  cases e3
  obtain ⟨b, o, rfl, hb, hc⟩ := hs3.at (by omega)
  have q := (hc 0 (by omega)).2.2
  replace q : w2.cell? ⟨b, o + 2, none⟩ = some (.int .i64 7) := q
  replace hs := hs.gr hg2
  have hgr := g1.trans hg2
  clear hc hs3 hown hm g1
  go_wp2_with fail
  refine (best_any _ 2 2 _ 3 1 w2 hs).mono ?_
  rintro e w3 ⟨rfl, hg3⟩
  rw [show (bst INF 3 1 [((3, 1, 9) : Sd), (3, 1, 7)]).1 = 7 by decide]
  replace hs := hs.gr hg3
  replace q := cell_gr q hg3
  replace hgr := hgr.trans hg3
  clear hg3 hg2
  go_wp2_with fail
  refine (best_any _ 2 2 _ 3 3 w3 hs).mono ?_
  rintro e w4 ⟨rfl, hg4⟩
  rw [show (bst INF 3 3 [((3, 1, 9) : Sd), (3, 1, 7)]).1 = 1099511627776 by decide]
  replace q := cell_gr q hg4
  replace hgr := hgr.trans hg4
  go_wp2_with fail
  go_ret
  exact ⟨rfl, hgr⟩

end Go.Proofs.Ytobankjdgdjehaa
