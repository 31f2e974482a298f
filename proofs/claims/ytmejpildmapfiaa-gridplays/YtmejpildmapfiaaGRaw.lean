/- GridRaw's walk: it answers true at every input; nothing that was there is written. -/
import Derived.Test.YtmejpildmapfiaaGTold
namespace Go.Proofs.Ytmejpildmapfiaa
open Go.RowKit
set_option maxRecDepth 20000

/-- a map of numbers may be -/
theorem gmade_may {x y : Int} {n N : Nat} {f : Nat → Int} (hf : ∀ i, i < n → 0 ≤ f i ∧ f i ≤ 255) (hN : (N : Int) = withinF x 1 40 * withinF y 1 40) : mayM (withinF x 1 40) (withinF y 1 40) N (madeF n f) = true := by
  have xb := within_bd x 1 40 (by omega)
  have yb := within_bd y 1 40 (by omega)
  exact (mayM_iff _ _ _ _).2 ⟨(mayB_iff _ _).2 (by omega), hN, fun i _ => by have := madeF_bd hf i; omega⟩
/-- a map's box behind a call that made it -/
theorem gbox (w1 : World) (W H : Int) (g N c' : Nat) (F : Nat → Int) (base : Nat) (hown : OwnB w1 base g N c' F) :
    ((w1.alloc (.cells #[.int .i64 W, .int .i64 H, .slice (some ⟨g, 0, none⟩) N c'] 25)).cell? ⟨w1.heap.size, 0, none⟩ = some (.int .i64 W) ∧ (w1.alloc (.cells #[.int .i64 W, .int .i64 H, .slice (some ⟨g, 0, none⟩) N c'] 25)).cell? ⟨w1.heap.size, 1, none⟩ = some (.int .i64 H) ∧ (w1.alloc (.cells #[.int .i64 W, .int .i64 H, .slice (some ⟨g, 0, none⟩) N c'] 25)).cell? ⟨w1.heap.size, 2, none⟩ = some (.slice (some ⟨g, 0, none⟩) N c')) ∧
    Sl (w1.alloc (.cells #[.int .i64 W, .int .i64 H, .slice (some ⟨g, 0, none⟩) N c'] 25)) (some ⟨g, 0, none⟩) N F :=
  ⟨tri_cells w1 W H (.slice (some ⟨g, 0, none⟩) N c') 25, hown.sl.2.2.2.2.gr ((Gr.refl w1).alloc _)⟩

set_option maxHeartbeats 8000000 in
theorem gridRaw_any (Wx Hy : Int) (a : Option Addr) (n cap : Nat) (f : Nat → Int) (ep : Int) (raw : Bool) (w : World) (h : Sl w a n f) (hn : n ≤ maxLen) (ha : a = none → n = 0 ∧ cap = 0) :
    Calls Try.prog 4 #[.agg #[.int .i64 Wx, .int .i64 Hy, .slice a n cap], .int .i64 ep, .bool raw] w fun e w' => e = .returned (.bool true) ∧ Gr w w' := by
  have hw0 : Gr w (w.alloc (.cells #[.int .i64 Wx, .int .i64 Hy, .slice a n cap] 25)) := (Gr.refl w).alloc _
  by_cases hbig : 2500 < n
  · have hb2 : (2500 : Int) < (n : Int) := by omega
    go_enter Try.func4, Try.ntmps4
    go_wp2_with (go_at_call 23; refine (told5_any _).mono ?_; rintro e w3 ⟨rfl, hg3⟩)
    go_ret
    exact ⟨rfl, hw0.trans hg3⟩
  have hb2 : ¬ (2500 : Int) < (n : Int) := by omega
  have hn2 : n ≤ 2500 := by omega
  have hh := h.gr hw0
  obtain ⟨b1, b2, b3, -, -, -⟩ := row_cells (tri_alloc w (.int .i64 Wx) (.int .i64 Hy) (.slice a n cap) 25)
  have HBY := hide h.byte
  clear h
  cases raw
  · go_enter Try.func4, Try.ntmps4
    go_wp2_with fail
    refine (ownMap_any Wx Hy a n cap f _ hh (by omega) ha).mono ?_
    rintro e w1 ⟨⟨g1, k1, rfl, hown1⟩, hg1⟩
    have hm1 := tri_alloc w1 (.int .i64 Wx) (.int .i64 Hy) (.slice (some ⟨g1, 0, none⟩) n k1) 25
    replace b1 := cell_gr b1 (hg1.alloc (.cells #[.int .i64 Wx, .int .i64 Hy, .slice (some ⟨g1, 0, none⟩) n k1] 25))
    replace b2 := cell_gr b2 (hg1.alloc (.cells #[.int .i64 Wx, .int .i64 Hy, .slice (some ⟨g1, 0, none⟩) n k1] 25))
    replace b3 := cell_gr b3 (hg1.alloc (.cells #[.int .i64 Wx, .int .i64 Hy, .slice (some ⟨g1, 0, none⟩) n k1] 25))
    have hs1 := hh.gr (hg1.alloc (.cells #[.int .i64 Wx, .int .i64 Hy, .slice (some ⟨g1, 0, none⟩) n k1] 25))
    have hgr0 := (hw0.trans hg1).alloc (.cells #[.int .i64 Wx, .int .i64 Hy, .slice (some ⟨g1, 0, none⟩) n k1] 25)
    have hz := hm1.lt
    have hz1 := (hw0.trans hg1).size
    clear hown1 hg1 hw0 hh
    go_wp2_with fail
    generalize (w1.alloc (.cells #[.int .i64 Wx, .int .i64 Hy, .slice (some ⟨g1, 0, none⟩) n k1] 25)) = u1 at *
    generalize w1.heap.size = B7 at *
    refine (made_any Wx Hy a n cap f _ hs1 hn).mono ?_
    rintro e w2 ⟨⟨g, c', k, rfl, hN, hown⟩, hg2⟩
    have hm0 := gmade_may HBY.out hN
    have hm2 := row_gr hm1 hg2
    obtain ⟨-, -, -, r1, r2, r3⟩ := row_cells hm2
    obtain ⟨k1', k2', k3', -, -, -⟩ := row_cells hm2
    have hne : g ≠ B7 := by have := hown.sl.2.2.1; omega
    generalize withinF Wx 1 40 = X at *
    generalize withinF Hy 1 40 = Y at *
    generalize madeF n f = F at *
    have hm3 := row_set3 (u0 := .int .i64 X) (u1 := .int .i64 Y) (u2 := .slice (some ⟨g, 0, none⟩) k c') hm2
    have hsl := ((hown.sl.2.2.2.2.setF (p := ⟨B7, 0, none⟩) (v := .int .i64 X) hne).setF (p := ⟨B7, 1, none⟩) (v := .int .i64 Y) hne).setF (p := ⟨B7, 2, none⟩) (v := .slice (some ⟨g, 0, none⟩) k c') hne
    have hgr := gr_set3 (x := .int .i64 X) (y := .int .i64 Y) (z := .slice (some ⟨g, 0, none⟩) k c') (hgr0.trans hg2) (by omega : w.heap.size ≤ B7)
    obtain ⟨c1, c2, c3, -, -, -⟩ := row_cells hm3
    clear hm1 hm2 hm3 b1 b2 b3 hs1 hown hg2 hN hgr0
    go_wp2_with fail
    clear r1 r2 r3 k1' k2' k3'
    generalize (((w2.setCell ⟨B7, 0, none⟩ (.int .i64 X)).setCell ⟨B7, 1, none⟩ (.int .i64 Y)).setCell ⟨B7, 2, none⟩ (.slice (some ⟨g, 0, none⟩) k c')) = u2 at *
    by_cases hok : mayM X Y k F = true ∧ 0 ≤ ep ∧ ep ≤ 4611686018427387904
    · obtain ⟨hmm, he⟩ := hok
      have hw2 : IntKind.i64.wrap (ep + 1) = ep + 1 := wrapI (by omega)
      have e0 : ¬ ep < 0 := by omega
      have e1 : ¬ 4611686018427387904 < ep := by omega
      have hsm : sameTB X Y k F X Y k F = true := by simp [sameTB, sameB]
      refine (gnew_yes X Y _ k c' F ep _ hsl hmm he).mono ?_
      rintro e w4 ⟨⟨p, c, v, cc, rfl, hgd, -, -, -⟩, hg4⟩
      replace c1 := cell_gr c1 hg4
      replace c2 := cell_gr c2 hg4
      replace c3 := cell_gr c3 hg4
      replace hsl := hsl.gr hg4
      replace hgr := hgr.trans hg4
      have HG := hide hgd
      clear hg4 hgd
      go_wp2_with fail
      refine (rmayM_any X Y _ k c' F _ hsl).mono ?_
      rintro e w5 ⟨rfl, hg5⟩
      rw [hmm]
      replace c1 := cell_gr c1 hg5
      replace c2 := cell_gr c2 hg5
      replace c3 := cell_gr c3 hg5
      replace hsl := hsl.gr hg5
      replace hgr := hgr.trans hg5
      replace HG := hide (HG.out.gr hg5)
      clear hg5
      go_wp2_with fail
      go_region_held3 (fun z => z.cell? ⟨B7, 0, none⟩ = some (.int .i64 X) ∧ z.cell? ⟨B7, 1, none⟩ = some (.int .i64 Y) ∧ z.cell? ⟨B7, 2, none⟩ = some (.slice (some ⟨g, 0, none⟩) k c') ∧ Gr w5 z) (first | exact ⟨c1, c2, c3, (Gr.refl _).drew⟩ | exact ⟨cell_gr hS.1 hg9, cell_gr hS.2.1 hg9, cell_gr hS.2.2.1 hg9, hS.2.2.2.trans hg9⟩) (first | (go_at_call 23; have hS := ‹_ ∧ _ ∧ _ ∧ Gr _ _›; refine (told5_any _).mono ?_; rintro e w9 ⟨rfl, hg9⟩) | (go_at_call 17; have hS := ‹_ ∧ _ ∧ _ ∧ Gr _ _›; refine (gepoch_any (HG.out.gr hS.2.2.2)).mono ?_; rintro e w9 ⟨rfl, hg9⟩) | (go_at_call 25; have hS := ‹_ ∧ _ ∧ _ ∧ Gr _ _›; refine (gmap_any (HG.out.gr hS.2.2.2)).mono ?_; rintro e w9 ⟨⟨g9, c9, rfl, ho9⟩, hg9⟩; have hsl9 := ho9.sl.2.2.2.2; clear ho9) | (go_at_call 24; have hS := ‹_ ∧ _ ∧ _ ∧ Gr _ _›; refine (rsameM_any _ _ _ _ _ _ _ _ _ _ F F _ hsl9 (hsl.gr hS.2.2.2)).mono ?_; rintro e w9 ⟨rfl, hg9⟩; rw [hsm]))
      go_wp2_with fail
      go_ret
      exact ⟨ret_bool (by simp), hgr.trans (‹_ ∧ _ ∧ _ ∧ Gr w5 _›).2.2.2⟩
    · have hno : mayM X Y k F = false ∨ ep < 0 ∨ 4611686018427387904 < ep := by
        cases hm : mayM X Y k F
        · exact .inl rfl
        · refine .inr ?_
          rw [hm] at hok
          apply Classical.byContradiction
          intro h
          exact hok ⟨rfl, by omega, by omega⟩
      clear hok
      refine (gnew_no X Y _ k c' F ep _ hsl hno).mono ?_
      rintro e w4 ⟨rfl, hg4⟩
      replace c1 := cell_gr c1 hg4
      replace c2 := cell_gr c2 hg4
      replace c3 := cell_gr c3 hg4
      replace hsl := hsl.gr hg4
      replace hgr := hgr.trans hg4
      clear hg4
      go_wp2_with fail
      refine (rmayM_any X Y _ k c' F _ hsl).mono ?_
      rintro e w5 ⟨rfl, hg5⟩
      replace c1 := cell_gr c1 hg5
      replace c2 := cell_gr c2 hg5
      replace c3 := cell_gr c3 hg5
      replace hsl := hsl.gr hg5
      replace hgr := hgr.trans hg5
      clear hg5
      cases hmm : mayM X Y k F
      · go_wp2_with fail
        refine (told5_any _).mono ?_
        rintro e w6 ⟨rfl, hg6⟩
        go_wp2_with fail
        go_ret
        exact ⟨ret_bool (by simp), hgr.trans hg6⟩
      · rw [hmm] at hno
        by_cases e0 : ep < 0
        · clear hno
          go_wp2_with fail
          refine (told5_any _).mono ?_
          rintro e w6 ⟨rfl, hg6⟩
          go_wp2_with fail
          go_ret
          exact ⟨ret_bool (by simp), hgr.trans hg6⟩
        · have e1 : 4611686018427387904 < ep := by
            rcases hno with h | h | h
            · cases h
            · omega
            · exact h
          clear hno
          go_wp2_with fail
          refine (told5_any _).mono ?_
          rintro e w6 ⟨rfl, hg6⟩
          go_wp2_with fail
          go_ret
          exact ⟨ret_bool (by simp), hgr.trans hg6⟩
  · go_enter Try.func4, Try.ntmps4
    go_wp2_with fail
    refine (ownMap_any Wx Hy a n cap f _ hh (by omega) ha).mono ?_
    rintro e w1 ⟨⟨g, c', rfl, hown⟩, hg1⟩
    obtain ⟨⟨c1, c2, c3⟩, hsl⟩ := gbox w1 Wx Hy g n c' f _ hown
    have hgr := (hw0.trans hg1).alloc (.cells #[.int .i64 Wx, .int .i64 Hy, .slice (some ⟨g, 0, none⟩) n c'] 25)
    clear hown hg1 hw0 hh b1 b2 b3 HBY
    go_wp2_with fail
    generalize (w1.alloc (.cells #[.int .i64 Wx, .int .i64 Hy, .slice (some ⟨g, 0, none⟩) n c'] 25)) = u1 at *
    generalize w1.heap.size = B7 at *
    generalize Wx = X at *
    generalize Hy = Y at *
    generalize f = F at *
    by_cases hok : mayM X Y n F = true ∧ 0 ≤ ep ∧ ep ≤ 4611686018427387904
    · obtain ⟨hmm, he⟩ := hok
      have hw2 : IntKind.i64.wrap (ep + 1) = ep + 1 := wrapI (by omega)
      have e0 : ¬ ep < 0 := by omega
      have e1 : ¬ 4611686018427387904 < ep := by omega
      have hsm : sameTB X Y n F X Y n F = true := by simp [sameTB, sameB]
      refine (gnew_yes X Y _ n c' F ep _ hsl hmm he).mono ?_
      rintro e w4 ⟨⟨p, c, v, cc, rfl, hgd, -, -, -⟩, hg4⟩
      replace c1 := cell_gr c1 hg4
      replace c2 := cell_gr c2 hg4
      replace c3 := cell_gr c3 hg4
      replace hsl := hsl.gr hg4
      replace hgr := hgr.trans hg4
      have HG := hide hgd
      clear hg4 hgd
      go_wp2_with fail
      refine (rmayM_any X Y _ n c' F _ hsl).mono ?_
      rintro e w5 ⟨rfl, hg5⟩
      rw [hmm]
      replace c1 := cell_gr c1 hg5
      replace c2 := cell_gr c2 hg5
      replace c3 := cell_gr c3 hg5
      replace hsl := hsl.gr hg5
      replace hgr := hgr.trans hg5
      replace HG := hide (HG.out.gr hg5)
      clear hg5
      go_wp2_with fail
      go_region_held3 (fun z => z.cell? ⟨B7, 0, none⟩ = some (.int .i64 X) ∧ z.cell? ⟨B7, 1, none⟩ = some (.int .i64 Y) ∧ z.cell? ⟨B7, 2, none⟩ = some (.slice (some ⟨g, 0, none⟩) n c') ∧ Gr w5 z) (first | exact ⟨c1, c2, c3, (Gr.refl _).drew⟩ | exact ⟨cell_gr hS.1 hg9, cell_gr hS.2.1 hg9, cell_gr hS.2.2.1 hg9, hS.2.2.2.trans hg9⟩) (first | (go_at_call 23; have hS := ‹_ ∧ _ ∧ _ ∧ Gr _ _›; refine (told5_any _).mono ?_; rintro e w9 ⟨rfl, hg9⟩) | (go_at_call 17; have hS := ‹_ ∧ _ ∧ _ ∧ Gr _ _›; refine (gepoch_any (HG.out.gr hS.2.2.2)).mono ?_; rintro e w9 ⟨rfl, hg9⟩) | (go_at_call 25; have hS := ‹_ ∧ _ ∧ _ ∧ Gr _ _›; refine (gmap_any (HG.out.gr hS.2.2.2)).mono ?_; rintro e w9 ⟨⟨g9, c9, rfl, ho9⟩, hg9⟩; have hsl9 := ho9.sl.2.2.2.2; clear ho9) | (go_at_call 24; have hS := ‹_ ∧ _ ∧ _ ∧ Gr _ _›; refine (rsameM_any _ _ _ _ _ _ _ _ _ _ F F _ hsl9 (hsl.gr hS.2.2.2)).mono ?_; rintro e w9 ⟨rfl, hg9⟩; rw [hsm]))
      go_wp2_with fail
      go_ret
      exact ⟨ret_bool (by simp), hgr.trans (‹_ ∧ _ ∧ _ ∧ Gr w5 _›).2.2.2⟩
    · have hno : mayM X Y n F = false ∨ ep < 0 ∨ 4611686018427387904 < ep := by
        cases hm : mayM X Y n F
        · exact .inl rfl
        · refine .inr ?_
          rw [hm] at hok
          apply Classical.byContradiction
          intro h
          exact hok ⟨rfl, by omega, by omega⟩
      clear hok
      refine (gnew_no X Y _ n c' F ep _ hsl hno).mono ?_
      rintro e w4 ⟨rfl, hg4⟩
      replace c1 := cell_gr c1 hg4
      replace c2 := cell_gr c2 hg4
      replace c3 := cell_gr c3 hg4
      replace hsl := hsl.gr hg4
      replace hgr := hgr.trans hg4
      clear hg4
      go_wp2_with fail
      refine (rmayM_any X Y _ n c' F _ hsl).mono ?_
      rintro e w5 ⟨rfl, hg5⟩
      replace c1 := cell_gr c1 hg5
      replace c2 := cell_gr c2 hg5
      replace c3 := cell_gr c3 hg5
      replace hsl := hsl.gr hg5
      replace hgr := hgr.trans hg5
      clear hg5
      cases hmm : mayM X Y n F
      · go_wp2_with fail
        refine (told5_any _).mono ?_
        rintro e w6 ⟨rfl, hg6⟩
        go_wp2_with fail
        go_ret
        exact ⟨ret_bool (by simp), hgr.trans hg6⟩
      · rw [hmm] at hno
        by_cases e0 : ep < 0
        · clear hno
          go_wp2_with fail
          refine (told5_any _).mono ?_
          rintro e w6 ⟨rfl, hg6⟩
          go_wp2_with fail
          go_ret
          exact ⟨ret_bool (by simp), hgr.trans hg6⟩
        · have e1 : 4611686018427387904 < ep := by
            rcases hno with h | h | h
            · cases h
            · omega
            · exact h
          clear hno
          go_wp2_with fail
          refine (told5_any _).mono ?_
          rintro e w6 ⟨rfl, hg6⟩
          go_wp2_with fail
          go_ret
          exact ⟨ret_bool (by simp), hgr.trans hg6⟩

end Go.Proofs.Ytmejpildmapfiaa
