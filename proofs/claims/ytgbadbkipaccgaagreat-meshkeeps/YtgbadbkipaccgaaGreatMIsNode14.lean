/- Whether a cell is a node, as the document reckons it. No condition. -/
import Derived.Test.YtgbadbkipaccgaaGreatMMath14
import Derived.Test.YtgbadbkipaccgaaGreatBRNodes11
namespace Go.Proofs.YtgbadbkipaccgaaGreat
open Go.RowKit
set_option maxRecDepth 20000

set_option maxHeartbeats 2000000 in
theorem risnode_any (W H : Int) (a : Option Addr) (n cap : Nat) (f : Nat → Int) (x : Int) (w : World) (h : Sl w a n f) :
    Calls Tryz.prog 44 #[.agg #[.int .i64 W, .int .i64 H, .slice a n cap], .int .i64 x] w fun e w' => e = .returned (.bool (nodB W H n f x)) ∧ Gr w w' := by
  have hga : Gr w (w.alloc (.cells #[.int .i64 W, .int .i64 H, .slice a n cap] 24)) := (Gr.refl w).alloc _
  have hB := tri_alloc w (.int .i64 W) (.int .i64 H) (.slice a n cap) 24
  obtain ⟨c1, c2, c3, -, -, -⟩ := row_cells hB
  have HO := hide (fun u (k : Gr w u) => ropen_any W H a n cap f x u (h.gr k))
  clear hB h
  cases ho : opB n f x
  · have HT : Hid (false = nodB W H n f x) := hide (by unfold nodB; rw [ho]; rfl)
    rw [ho] at HO
    go_enter Tryz.func44, Tryz.ntmps44
    go_wp2_with (go_at_call 43; refine (HO.out _ hga).mono ?_; rintro e w1 ⟨rfl, hg1⟩)
    go_ret
    exact ⟨ret_bool HT.out, hga.trans hg1⟩
  · have HT : Hid (brdB W H x = nodB W H n f x) := hide (by unfold nodB; rw [ho]; rfl)
    rw [ho] at HO
    clear ho
    go_enter Tryz.func44, Tryz.ntmps44
    go_wp2_with (go_at_call 43; refine (HO.out _ hga).mono ?_; rintro e w1 ⟨rfl, hg1⟩; replace c1 := cell_gr c1 hg1; replace c2 := cell_gr c2 hg1)
    have hgr := hga.trans hg1
    clear hg1 c3
    go_loopw [5] (fun i u => ∃ k : Nat, k ≤ 4 ∧ i = .int .i64 k ∧ Hid (∀ j : Nat, j < k → ¬ 0 ≤ overF W H x j) ∧ Dr w1 u) (fun i _ => 4 - (intOf i).toNat)
    case atStart => exact ⟨0, by omega, rfl, hide (by omega), Dr.refl _⟩
    case round =>
      obtain ⟨k, hk, rfl, HA, hD⟩ := hrel
      replace c1 := cell_gr c1 hD.gr
      replace c2 := cell_gr c2 hD.gr
      by_cases h4 : k < 4
      · have k3 : (k : Int) ≤ 3 := by omega
        by_cases he : 0 ≤ overF W H x k
        · have H9 : Hid (true = nodB W H n f x) := hide (by rw [← HT.out]; exact (brdB_some k (by omega) he).symm)
          go_wp2_with (go_at_call 49; refine (rover_any _ _ _ _ _).mono ?_; rintro e w' ⟨rfl, hd⟩)
          go_ret
          exact ⟨ret_bool H9.out, hgr.trans (hD.trans hd).gr⟩
        · go_wp2_with (go_at_call 49; refine (rover_any _ _ _ _ _).mono ?_; rintro e w' ⟨rfl, hd⟩)
          go_roundw
          case rel =>
            refine ⟨k + 1, by omega, by go_num, hide ?_, hD.trans hd⟩
            intro j hj
            by_cases e : j = k
            · subst e; omega
            · have := HA.out j (by omega)
              omega
          case measure => simp [intOf]; omega
      · obtain rfl : k = 4 := by omega
        have H9 : Hid (false = nodB W H n f x) := hide (by rw [← HT.out]; exact (brdB_none HA.out).symm)
        go_wp2
        go_ret
        exact ⟨ret_bool H9.out, hgr.trans hD.gr⟩
end Go.Proofs.YtgbadbkipaccgaaGreat
