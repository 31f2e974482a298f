/- told of law 5, and GridNone: they answer true at every input; nothing that was there is written. -/
import Derived.Test.YtmejpildmapfiaaGNil
namespace Go.Proofs.Ytmejpildmapfiaa
open Go.RowKit
set_option maxRecDepth 20000

/-- the two costs of told -/
def f56 (i : Nat) : Int := if i = 0 then 5 else 6
theorem sl56 (w : World) : Sl (w.alloc (.cells #[.int .u8 5, .int .u8 6] 5)) (some ⟨w.heap.size, 0, none⟩) 2 f56 := by
  refine ⟨fun i hi => by unfold f56; split <;> omega, .inr ⟨_, _, rfl, by rw [World.size_alloc]; omega, fun i hi => ?_⟩⟩
  rcases (by omega : i = 0 ∨ i = 1) with rfl | rfl <;> simp [go_sem, f56]
theorem may56 : mayM 2 1 2 f56 = true := (mayM_iff _ _ _ _).2 ⟨by decide, by decide, fun i hi => by unfold f56; split <;> omega⟩
theorem cnt21 : cntS 2 1 = 1 := by decide
theorem sec21 : (sectorF 2 ((1 : Nat) : Int)).toNat = 0 := by decide
theorem Of3.gr {a w w' : World} {p c v : Nat} (k : Kp (Of3 p c v) w w') (h : Gr a w) (hp : a.heap.size ≤ p) (hc : a.heap.size ≤ c) (hv : a.heap.size ≤ v) : Gr a w' :=
  k.gr h (fun i hi => by rcases hi with rfl | rfl | rfl <;> assumption)

set_option maxHeartbeats 2000000 in
theorem told5_any (w : World) : Calls Try.prog 23 #[] w fun e w' => e = .returned (.bool true) ∧ Gr w w' := by
  have HS := hide (sl56 w)
  have hU : Gr w (w.alloc (.cells #[.int .u8 5, .int .u8 6] 5)) := (Gr.refl w).alloc _
  go_enter Try.func23, Try.ntmps23
  go_wp2_with fail
  refine (gnew_yes 2 1 _ 2 2 f56 0 _ HS.out may56 (by omega)).mono ?_
  rintro e w1 ⟨⟨p, c, v, cc, rfl, hgd, hp, hc, hv⟩, hg1⟩
  replace hg1 := hU.trans hg1
  have hs0 := hU.size
  generalize (w.alloc (.cells #[.int .u8 5, .int .u8 6] 5)) = U at *
  have HG := hide hgd
  clear hgd hU HS
  go_wp2_with fail
  refine (gepoch_any HG.out).mono ?_
  rintro e w2 ⟨rfl, hg2⟩
  replace HG := hide (HG.out.gr hg2)
  replace hg1 := hg1.trans hg2
  clear hg2
  go_wp2_with fail
  refine (gedit_yes HG.out 1 9 (by omega) (by omega) (by omega)).mono ?_
  rintro e w3 ⟨rfl, hgd, hk3⟩
  rw [sec21] at hgd
  replace HG := hide hgd
  replace hg1 := Of3.gr hk3 hg1 (by omega) (by omega) (by omega)
  clear hgd hk3
  go_wp2_with fail
  refine (gepoch_any HG.out).mono ?_
  rintro e w4 ⟨rfl, hg2⟩
  replace HG := hide (HG.out.gr hg2)
  replace hg1 := hg1.trans hg2
  clear hg2
  go_wp2_with fail
  refine (gcost_any HG.out 1).mono ?_
  rintro e w5 ⟨rfl, hg2⟩
  have e1 : gatF 2 (putF f56 1 9) 1 = 9 := rfl
  rw [e1]
  clear e1
  replace HG := hide (HG.out.gr hg2)
  replace hg1 := hg1.trans hg2
  clear hg2
  go_wp2_with fail
  refine (gversion_any HG.out 0).mono ?_
  rintro e w6 ⟨rfl, hg2⟩
  have e1 : gatF (cntS 2 1) (putF (fun _ => 0 + 1) 0 (0 + 1 + 1)) 0 = 2 := by rw [cnt21]; rfl
  rw [e1]
  go_wp2_with fail
  go_ret
  exact ⟨ret_bool (by simp), hg1.trans hg2⟩

set_option maxHeartbeats 2000000 in
theorem gridNone_any (x y s : Int) (w : World) : Calls Try.prog 7 #[.int .i64 x, .int .i64 y, .int .i64 s] w fun e w' => e = .returned (.bool true) ∧ Gr w w' := by
  go_enter Try.func7, Try.ntmps7
  go_wp2_with fail
  refine (nsize_any _).mono ?_
  rintro e w1 ⟨rfl, hg1⟩
  go_wp2_with fail
  refine (ntile_any _ _).mono ?_
  rintro e w2 ⟨rfl, hg2⟩
  replace hg1 := hg1.trans hg2
  clear hg2
  go_wp2_with fail
  have d3 := (row_cells (tri_alloc w2 (.int .i64 0) (.int .i64 0) (.slice none 0 0) 37)).2.2.1
  replace hg1 := hg1.alloc (.cells #[.int .i64 0, .int .i64 0, .slice none 0 0] 37)
  generalize (w2.alloc (.cells #[.int .i64 0, .int .i64 0, .slice none 0 0] 37)) = u2 at *
  generalize w2.heap.size = B2 at *
  refine (nmap_any _).mono ?_
  rintro e w3 ⟨rfl, hg2⟩
  replace hg1 := hg1.trans hg2
  replace d3 := cell_gr d3 hg2
  clear hg2
  go_wp2_with fail
  obtain ⟨m1, -, m3, -, -, -⟩ := row_cells (tri_alloc w3 (.int .i64 0) (.int .i64 0) (.slice none 0 0) 25)
  replace d3 := cell_gr d3 ((Gr.refl w3).alloc (.cells #[.int .i64 0, .int .i64 0, .slice none 0 0] 25))
  replace hg1 := hg1.alloc (.cells #[.int .i64 0, .int .i64 0, .slice none 0 0] 25)
  generalize (w3.alloc (.cells #[.int .i64 0, .int .i64 0, .slice none 0 0] 25)) = u3 at *
  generalize w3.heap.size = B3 at *
  refine (told5_any _).mono ?_
  rintro e w4 ⟨rfl, hg2⟩
  replace hg1 := hg1.trans hg2
  replace d3 := cell_gr d3 hg2
  replace m1 := cell_gr m1 hg2
  replace m3 := cell_gr m3 hg2
  clear hg2
  go_wp2_with fail
  refine (ncost_any _ _).mono ?_
  rintro e w5 ⟨rfl, hg2⟩
  replace hg1 := hg1.trans hg2
  replace d3 := cell_gr d3 hg2
  replace m1 := cell_gr m1 hg2
  replace m3 := cell_gr m3 hg2
  clear hg2
  go_wp2_with fail
  refine (nedit_any _ _ _).mono ?_
  rintro e w6 ⟨rfl, hg2⟩
  replace hg1 := hg1.trans hg2
  replace d3 := cell_gr d3 hg2
  replace m1 := cell_gr m1 hg2
  replace m3 := cell_gr m3 hg2
  clear hg2
  go_wp2_with fail
  refine (nepoch_any _).mono ?_
  rintro e w7 ⟨rfl, hg2⟩
  replace hg1 := hg1.trans hg2
  replace d3 := cell_gr d3 hg2
  replace m1 := cell_gr m1 hg2
  replace m3 := cell_gr m3 hg2
  clear hg2
  go_wp2_with fail
  refine (nversion_any _ _).mono ?_
  rintro e w8 ⟨rfl, hg2⟩
  replace hg1 := hg1.trans hg2
  replace d3 := cell_gr d3 hg2
  replace m1 := cell_gr m1 hg2
  replace m3 := cell_gr m3 hg2
  clear hg2
  go_wp2_with fail
  go_ret
  exact ⟨ret_bool (by simp), hg1⟩

end Go.Proofs.Ytmejpildmapfiaa
