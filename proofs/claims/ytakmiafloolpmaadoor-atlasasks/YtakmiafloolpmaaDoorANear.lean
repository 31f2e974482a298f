/- What the law's near answers. -/
import Derived.Test.YtakmiafloolpmaaDoorALaws
namespace Go.Proofs.YtakmiafloolpmaaDoor
open Go.RowKit
set_option maxRecDepth 20000

set_option maxHeartbeats 2000000 in
theorem near4_raw (W H : Int) (a : Option Addr) (n cap : Nat) (f : Nat → Int) (w : World) (h : Sl w a n f) (hbig : n ≤ 140737488355328) (ha : a = none → n = 0 ∧ cap = 0) :
    Calls Tryd.prog 10 #[.agg #[.int .i64 W, .int .i64 H, .slice a n cap], .bool true] w fun e w' => (∃ g c', e = .returned (.agg #[.int .i64 W, .int .i64 H, .slice (some ⟨g, 0, none⟩) n c']) ∧ OwnB w' w.heap.size g n c' f) ∧ Gr w w' := by
  obtain ⟨R1, R2, hU, hUw⟩ := two_boxes w W H (.slice a n cap) 24 24
  have HR2 := hide R2
  have HO := hide (fun (u : World) (hu : Gr w u) => ownMap_any W H a n cap f u (h.gr hu) hbig ha)
  clear R1 R2
  go_enter Tryd.func10, Tryd.ntmps10
  go_wp2_with (go_at_call 26; refine (HO.out _ hUw).mono ?_; rintro e w3 ⟨⟨g3, c3, rfl, ho3⟩, hg3⟩; obtain ⟨e1, e2, e3, j1, j2, j3⟩ := row_cells (row_gr HR2.out hg3))
  exact bodyPost_ret (v := .agg #[.int .i64 W, .int .i64 H, .slice (some ⟨g3, 0, none⟩) n c3]) (by simp [results, Tryd.results10, go_sem, e1, e2, e3]) rfl ⟨⟨g3, c3, rfl, own_mono (own_set3 ho3.own (by omega)) (by omega), ho3.byte⟩, gr_set3 (hUw.trans hg3) (by omega)⟩

set_option maxHeartbeats 2000000 in
theorem near4_made (x y : Int) (a : Option Addr) (n cap : Nat) (f : Nat → Int) (w : World) (h : Sl w a n f) (hn : n ≤ maxLen) :
    Calls Tryd.prog 10 #[.agg #[.int .i64 x, .int .i64 y, .slice a n cap], .bool false] w fun e w' => (∃ g c' N : Nat, e = .returned (.agg #[.int .i64 (withinF x 1 40), .int .i64 (withinF y 1 40), .slice (some ⟨g, 0, none⟩) N c']) ∧ (N : Int) = withinF x 1 40 * withinF y 1 40 ∧ OwnB w' w.heap.size g N c' (madeF n f)) ∧ Gr w w' := by
  obtain ⟨R1, R2, hU, hUw⟩ := two_boxes w x y (.slice a n cap) 24 24
  have HR2 := hide R2
  have HO := hide (fun (u : World) (hu : Gr w u) => made_any x y a n cap f u (h.gr hu) hn)
  clear R1 R2
  go_enter Tryd.func10, Tryd.ntmps10
  go_wp2_with (go_at_call 22; refine (HO.out _ hUw).mono ?_; rintro e w3 ⟨⟨g3, c3, N, rfl, hN, ho3⟩, hg3⟩; obtain ⟨e1, e2, e3, j1, j2, j3⟩ := row_cells (row_gr HR2.out hg3))
  exact bodyPost_ret (v := .agg #[.int .i64 (withinF x 1 40), .int .i64 (withinF y 1 40), .slice (some ⟨g3, 0, none⟩) N c3]) (by simp [results, Tryd.results10, go_sem, e1, e2, e3]) rfl ⟨⟨g3, c3, N, rfl, hN, own_mono (own_set3 ho3.own (by omega)) (by omega), ho3.byte⟩, gr_set3 (hUw.trans hg3) (by omega)⟩

end Go.Proofs.YtakmiafloolpmaaDoor
