/- The statements' 'near': a tile of numbers, or a copy; the document's Ints of two lists that are alike. -/
import Derived.Test.YtafghafdapiadaaTMates
namespace Go.Proofs.Ytafghafdapiadaa
open Go.RowKit

theorem tri_at (w : World) (W H : Int) (v : Value) : (w.alloc (.cells #[.int .i64 W, .int .i64 H, v] 24)).cell? ⟨w.heap.size, 0, none⟩ = some (.int .i64 W) ∧ (w.alloc (.cells #[.int .i64 W, .int .i64 H, v] 24)).cell? ⟨w.heap.size, 1, none⟩ = some (.int .i64 H) ∧ (w.alloc (.cells #[.int .i64 W, .int .i64 H, v] 24)).cell? ⟨w.heap.size, 2, none⟩ = some v :=
  ⟨(tri_alloc w _ _ _ _).cell (i := 0) (by omega), (tri_alloc w _ _ _ _).cell (i := 1) (by omega), (tri_alloc w _ _ _ _).cell (i := 2) (by omega)⟩

set_option maxHeartbeats 1000000 in
theorem ints_same (a b : Option Addr) (n c d : Nat) (f : Nat → Int) (w : World) (h : SlI w a n f) (k : SlI w b n f) (hn : n ≤ 1000000) :
    Calls Try.prog 17 #[.slice a n c, .slice b n d] w fun e w' => e = .returned (.bool true) ∧ Dr w w' := by
  go_enter Try.func17, Try.ntmps17
  go_wp2
  go_loopw [5] (fun i u => ∃ j : Nat, j ≤ n ∧ i = .int .i64 j ∧ Dr w u) (fun i _ => n - (intOf i).toNat)
  case atStart => exact ⟨0, Nat.zero_le _, rfl, Dr.refl _⟩
  case round =>
    obtain ⟨j, hj, rfl, q, rfl⟩ := hrel
    by_cases hlt : j < n
    · obtain ⟨b1, o1, rfl, _, hc1⟩ := h.at (by omega)
      obtain ⟨b2, o2, rfl, _, hc2⟩ := k.at (by omega)
      have e1 := hc1 j hlt
      have e2 := hc2 j hlt
      have j0 : (0 : Int) ≤ (j : Int) := by omega
      have j1 : (j : Int) < (n : Int) := by omega
      clear hc1 hc2
      generalize f j = z at *
      go_wp2_with fail
      go_quiet (fail)
      go_wp2
      go_roundw
      case rel => exact ⟨j + 1, by omega, by go_num, ⟨_, rfl⟩⟩
      case measure => simp [intOf]; omega
    · go_wp2
      go_ret
      exact ⟨rfl, ⟨_, rfl⟩⟩

set_option maxHeartbeats 2000000 in
theorem near_any2 (W H : Int) (a : Option Addr) (n cap : Nat) (f : Nat → Int) (x y : Int) (raw : Bool) (w : World) (h : Sl w a n f) (hn : n ≤ 600) (ha : a = none → n = 0 ∧ cap = 0) :
    Calls Try.prog 9 #[.agg #[.int .i64 W, .int .i64 H, .slice a n cap], .int .i64 x, .int .i64 y, .bool raw] w fun e w' =>
      (∃ (W' H' : Int) (g n' c' : Nat) (f' : Nat → Int), e = .returned (.agg #[.int .i64 W', .int .i64 H', .slice (some ⟨g, 0, none⟩) n' c']) ∧ OwnB w' w.heap.size g n' c' f' ∧ n' ≤ 600) ∧ Gr w w' := by
  cases raw
  · go_enter Try.func9, Try.ntmps9
    go_wp2_with fail
    refine (madeTile_any _ _ _ _ _ f _ (h.gr (by repeat (first | exact Gr.refl _ | assumption | exact Dr.gr (by assumption) | refine Gr.alloc ?_ _ | refine Gr.drewN ?_ _ | refine Gr.drew ?_ | refine Gr.trans ?_ (by assumption) | refine Gr.trans ?_ (Dr.gr (by assumption))))) (by unfold maxLen; omega)).mono ?_
    rintro e w1 ⟨⟨g, c', N, rfl, hN, hown⟩, hg1⟩
    have xb := within_bd x 1 16 (by omega)
    have yb := within_bd y 1 16 (by omega)
    have mb := mul_bd (w := withinF x 1 16) (h := withinF y 1 16) (W := 16) (H := 16) (by omega) (by omega) (by omega) (by omega)
    have hN6 : N ≤ 600 := by omega
    clear hN mb
    generalize withinF x 1 16 = W' at *
    generalize withinF y 1 16 = H' at *
    obtain ⟨ho, hf, hs⟩ := hg1.old
    simp only [World.size_alloc] at hs hown
    go_wp2
    refine bodyPost_ret (v := .agg #[.int .i64 W', .int .i64 H', .slice (some ⟨g, 0, none⟩) N c']) (by simp [results, Try.results9, go_sem, ho]) rfl ⟨⟨_, _, g, N, c', madeF n f, rfl, ?_, hN6⟩, (by repeat (first | exact Gr.refl _ | assumption | exact Dr.gr (by assumption) | refine Gr.alloc ?_ _ | refine Gr.drewN ?_ _ | refine Gr.drew ?_ | (refine Gr.set ?_ (by first | exact Nat.le_refl _ | exact Nat.le_succ _ | (show _ ≤ _; omega) | (simp only [World.size_alloc] at *; omega)) _) | refine Gr.trans ?_ (by assumption) | refine Gr.trans ?_ (Dr.gr (by assumption))))⟩
    exact ⟨own_mono (base := w.heap.size + 1 + 1) (ownsRow_setCell_below (ownsRow_setCell_below (ownsRow_setCell_below hown.own (a := ⟨w.heap.size + 1, 0, none⟩) (by show w.heap.size + 1 < _; omega) _) (a := ⟨w.heap.size + 1, 1, none⟩) (by show w.heap.size + 1 < _; omega) _) (a := ⟨w.heap.size + 1, 2, none⟩) (by show w.heap.size + 1 < _; omega) _) (by omega), hown.byte⟩
  · go_enter Try.func9, Try.ntmps9
    go_wp2_with fail
    refine (ownTile_any _ _ _ _ _ f _ (h.gr (by repeat (first | exact Gr.refl _ | assumption | exact Dr.gr (by assumption) | refine Gr.alloc ?_ _ | refine Gr.drewN ?_ _ | refine Gr.drew ?_ | refine Gr.trans ?_ (by assumption) | refine Gr.trans ?_ (Dr.gr (by assumption))))) (by omega) ha).mono ?_
    rintro e w1 ⟨⟨g, c', rfl, hown⟩, hg1⟩
    obtain ⟨ho, hf, hs⟩ := hg1.old
    simp only [World.size_alloc] at hs hown
    go_wp2
    refine bodyPost_ret (v := .agg #[.int .i64 W, .int .i64 H, .slice (some ⟨g, 0, none⟩) n c']) (by simp [results, Try.results9, go_sem, ho]) rfl ⟨⟨_, _, g, n, c', f, rfl, ?_, hn⟩, (by repeat (first | exact Gr.refl _ | assumption | exact Dr.gr (by assumption) | refine Gr.alloc ?_ _ | refine Gr.drewN ?_ _ | refine Gr.drew ?_ | (refine Gr.set ?_ (by first | exact Nat.le_refl _ | exact Nat.le_succ _ | (show _ ≤ _; omega) | (simp only [World.size_alloc] at *; omega)) _) | refine Gr.trans ?_ (by assumption) | refine Gr.trans ?_ (Dr.gr (by assumption))))⟩
    exact ⟨own_mono (base := w.heap.size + 1 + 1) (ownsRow_setCell_below (ownsRow_setCell_below (ownsRow_setCell_below hown.own (a := ⟨w.heap.size + 1, 0, none⟩) (by show w.heap.size + 1 < _; omega) _) (a := ⟨w.heap.size + 1, 1, none⟩) (by show w.heap.size + 1 < _; omega) _) (a := ⟨w.heap.size + 1, 2, none⟩) (by show w.heap.size + 1 < _; omega) _) (by omega), hown.byte⟩

end Go.Proofs.Ytafghafdapiadaa
