/- BorderAsks' walk: cells at a border, nodes, runs, crosses are what the document says: it answers true at every input; nothing that was there is written. -/
import Derived.Test.YtanihjgpdfploaaBTold11
import Derived.Test.YtanihjgpdfploaaBRRuns11
namespace Go.Proofs.Ytanihjgpdfploaa
open Go.RowKit
set_option maxRecDepth 20000

theorem within_dr (n lo hi : Int) (w : World) (h : lo ≤ hi) (hl : -4611686018427387904 ≤ lo * 4) (hh : hi * 4 ≤ 4611686018427387904) :
    Calls Try.prog 10 #[.int .i64 n, .int .i64 lo, .int .i64 hi] w fun e w' => e = .returned (.int .i64 (withinF n lo hi)) ∧ Dr w w' :=
  Calls.mono (within_st n lo hi w h hl hh) fun _ _ ⟨a, b⟩ => ⟨a, by rw [b]; exact Dr.refl _⟩
theorem cross_nowhere {W H : Int} {N : Nat} {f : Nat → Int} {x : Int} (hm : mayB W H = true) (hN : (N : Int) = W * H) (h : isCellB W H x = false) : crossK W H N f x 4 = [] := by
  refine crossK_none 4 ?_
  cases e : opB N f x
  · rfl
  · obtain ⟨a, b, -⟩ := (opB_iff _ _ _).1 e
    have := (isCellB_iff W H x).2 ⟨hm, a, by omega⟩
    rw [h] at this
    cases this
theorem bruns_any {w : World} {p c v : Nat} {W H : Int} {N cc : Nat} {f : Nat → Int} {ep : Int} {ver : Nat → Int} (h : Gd w p c v W H N cc f ep ver) (s side : Int) :
    Calls Try.prog 21 #[.pointer (some ⟨p, 0, none⟩), .int .i64 s, .int .i64 side] w fun e w' => (∃ v, e = .returned v ∧ w'.ownsRow w.heap.size 53 2 v (runsL W H N f s side).length (flatP (runsL W H N f s side))) ∧ Gr w w' := by
  by_cases hs : isSectorB W H s = true ∧ 0 ≤ side ∧ side ≤ 3
  · obtain ⟨hs, h0, h3⟩ := hs
    obtain ⟨z, rfl⟩ : ∃ z : Nat, s = z := ⟨s.toNat, by have := ((isSectorB_iff _ _ _).1 hs).2.1; omega⟩
    obtain ⟨d, rfl⟩ : ∃ d : Nat, side = d := ⟨side.toNat, by omega⟩
    exact bruns_yes h z d hs (by omega)
  · refine bruns_no h s side ?_
    cases e : isSectorB W H s
    · exact .inl rfl
    · right
      rw [e] at hs
      simp only [true_and] at hs
      omega
theorem rruns_any (W H : Int) (a : Option Addr) (N cap : Nat) (f : Nat → Int) (s side : Int) (w : World) (h : Sl w a N f) :
    Calls Try.prog 22 #[.agg #[.int .i64 W, .int .i64 H, .slice a N cap], .int .i64 s, .int .i64 side] w fun e w' => (∃ v, e = .returned v ∧ w'.ownsRow w.heap.size 53 2 v (runsL W H N f s side).length (flatP (runsL W H N f s side))) ∧ Gr w w' := by
  by_cases hs : isSectorB W H s = true ∧ 0 ≤ side ∧ side ≤ 3
  · obtain ⟨hs, h0, h3⟩ := hs
    obtain ⟨z, rfl⟩ : ∃ z : Nat, s = z := ⟨s.toNat, by have := ((isSectorB_iff _ _ _).1 hs).2.1; omega⟩
    rcases (by omega : side = 0 ∨ side = 1 ∨ side = 2 ∨ side = 3) with rfl | rfl | rfl | rfl
    · exact rruns_0 W H a N cap f z w h hs
    · exact rruns_1 W H a N cap f z w h hs
    · exact rruns_2 W H a N cap f z w h hs
    · exact rruns_3 W H a N cap f z w h hs
  · refine rruns_no W H a N cap f s side w ?_
    cases e : isSectorB W H s
    · exact .inl rfl
    · right
      rw [e] at hs
      simp only [true_and] at hs
      omega

set_option maxHeartbeats 16000000 in
theorem borderAsks_any (x y : Int) (a : Option Addr) (n cap : Nat) (f : Nat → Int) (sc sd ce : Int) (raw : Bool) (w : World) (h : Sl w a n f) (hn : n ≤ maxLen) :
    Calls Try.prog 3 #[.int .i64 x, .int .i64 y, .slice a n cap, .int .i64 sc, .int .i64 sd, .int .i64 ce, .bool raw] w fun e w' => e = .returned (.bool true) ∧ Gr w w' := by
  go_enter Try.func3, Try.ntmps3
  go_wp2_with fail
  refine (made_any x y a n cap f w h hn).mono ?_
  rintro e w1 ⟨⟨gm, cm, N, rfl, hN, hown⟩, hg1⟩
  have hm := gmade_may h.byte hN
  obtain ⟨N1, N2⟩ := gmade_n hN
  generalize withinF x 1 40 = W at *
  generalize withinF y 1 40 = H at *
  generalize madeF n f = F at *
  have hBm := tri_alloc w1 (.int .i64 W) (.int .i64 H) (.slice (some ⟨gm, 0, none⟩) N cm) 24
  have hgr : Gr w (w1.alloc (.cells #[.int .i64 W, .int .i64 H, .slice (some ⟨gm, 0, none⟩) N cm] 24)) := hg1.alloc _
  have hsl := hown.sl.2.2.2.2.gr ((Gr.refl w1).alloc (.cells #[.int .i64 W, .int .i64 H, .slice (some ⟨gm, 0, none⟩) N cm] 24))
  obtain ⟨q1, q2, q3, q4, -⟩ := hown.sl
  have HN := hide hN
  have HM := hide hm
  clear hown hg1 h hn hN hm
  go_wp2_with fail
  generalize (w1.alloc (.cells #[.int .i64 W, .int .i64 H, .slice (some ⟨gm, 0, none⟩) N cm] 24)) = u1 at *
  generalize w1.heap.size = B0 at *
  have z0 := hBm.lt
  have zs := hgr.size
  have zg : gm < u1.heap.size := by
    obtain ⟨b', o', e', hb', -⟩ := hsl.at (by omega)
    cases e'
    exact hb'
  refine (gnew_yes W H _ N cm F 0 u1 hsl HM.out (by omega)).mono ?_
  rintro e w3 ⟨⟨p, c, v, cc, rfl, hgd, hp, hc, hv⟩, hg3⟩
  replace hgr := hgr.trans hg3
  replace hBm := row_gr hBm hg3
  replace hsl := hsl.gr hg3
  have hpw : w.heap.size ≤ p ∧ w.heap.size ≤ c ∧ w.heap.size ≤ v ∧ B0 ≠ p ∧ B0 ≠ c ∧ B0 ≠ v ∧ gm ≠ p ∧ gm ≠ c ∧ gm ≠ v := by omega
  obtain ⟨c1, c2, c3, -, -, -⟩ := row_cells hBm
  have HG := hide hgd
  obtain ⟨hmb, hNm, -, -, b3, b4, b5⟩ := hgd.bd
  have HNm := hide hNm
  clear hg3 hgd hp hc hv z0 zs zg hNm
  replace HM := hide (And.intro hmb HNm.out)
  clear hpw b3 b4 b5 hmb q1 q2 q3
  have HL25 : Hid (∀ s : Int, (cellsL W H s).length ≤ 1000000) := hide fun s => by have := cellsL_len W H s; omega
  have HN60 : Hid (∀ s : Int, (nodesL W H N F s).length ≤ 1000000) := hide fun s => by
    have := cellsL_len W H s
    have := List.length_filter_le (fun (c : Nat) => opB N F (c : Int)) (cellsL W H s)
    unfold nodesL
    omega
  cases raw
  · have cb := count_bd W H
    have HQ1 := hide (fun u => within_dr sc (-1) (countF W H) u (by omega) (by omega) (by omega))
    have HQ2 := hide (fun u => within_dr sd (-1) 5 u (by omega) (by omega) (by omega))
    have HQ3 := hide (fun u => within_dr ce (-1) (N : Int) u (by omega) (by omega) (by omega))
    have HQ4 := hide (fun u => rcount_any W H u)
    generalize withinF sc (-1) (countF W H) = sc2 at *
    generalize withinF sd (-1) 5 = sd2 at *
    generalize withinF ce (-1) (N : Int) = ce2 at *
    generalize countF W H = CC at *
    go_wp2_with fail
    go_quiet (first | (go_at_call 11; refine Dr.quiet (HQ4.out _)) | (go_at_call_of 10 sc; refine Dr.quiet (HQ1.out _)) | (go_at_call_of 10 sd; refine Dr.quiet (HQ2.out _)) | (go_at_call_of 10 ce; refine Dr.quiet (HQ3.out _)))
    have hgq : Gr w3 (w3.drewN nq) := (Gr.refl w3).drewN nq
    generalize w3.drewN nq = u3 at *
    replace hgr := hgr.trans hgq
    replace hBm := row_gr hBm hgq
    replace hsl := hsl.gr hgq
    replace HG := hide (HG.out.gr hgq)
    clear hgq c1 c2 c3 HQ1 HQ2 HQ3 HQ4
    obtain ⟨c1, c2, c3, -, -, -⟩ := row_cells hBm
    replace HL25 := hide (HL25.out sc2)
    replace HN60 := hide (HN60.out sc2)
    go_wp2_with fail
    cases hic : isCellB W H ce2
    · have hcn := cross_nowhere (f := F) HM.out.1 HM.out.2 hic
      go_wp2_with (go_at_call 12; refine (risCell_any _ _ _ _).mono ?_; rintro e u5 ⟨rfl, hd5⟩; rw [hic])
      have hx : PlS u5 none 0 0 [] := ⟨rfl, Nat.le_refl _, Nat.zero_le _, .inl rfl⟩
      have hg5 := hd5.gr
      have HCN := hide hcn
      clear hd5 hcn hic
      have HG5 := hide (HG.out.gr hg5)
      have HS5 := hide (hsl.gr hg5)
      have HX5 := hide hx
      have HGR5 := hide (hgr.trans hg5)
      obtain ⟨c1, c2, c3, -, -, -⟩ := row_cells (row_gr hBm hg5)
      clear hx hg5
      go_wp2_with fail
      go_region_held3 (fun z => z.cell? ⟨B0, 0, none⟩ = some (.int .i64 W) ∧ z.cell? ⟨B0, 1, none⟩ = some (.int .i64 H) ∧ z.cell? ⟨B0, 2, none⟩ = some (.slice (some ⟨gm, 0, none⟩) N cm) ∧ Gr u5 z) (first | exact ⟨c1, c2, c3, (Gr.refl _).drew⟩ | exact ⟨cell_gr hS.1 hg9, cell_gr hS.2.1 hg9, cell_gr hS.2.2.1 hg9, hS.2.2.2.trans hg9⟩) (first | (go_at_call 14; have hS := ‹_ ∧ _ ∧ _ ∧ Gr u5 _›; refine (told11_any _).mono ?_; rintro e w9 ⟨rfl, hg9⟩) | (go_at_call 16; have hS := ‹_ ∧ _ ∧ _ ∧ Gr u5 _›; refine (bcells_any W H sc2 _).mono ?_; rintro e w9 ⟨⟨r9, rfl, ho9⟩, hg9⟩; obtain ⟨ra, rc, rfl, hA⟩ := IlS.slot ho9; clear ho9) | (go_at_call 17; have hS := ‹_ ∧ _ ∧ _ ∧ Gr u5 _›; refine (rcells_any W H sc2 _).mono ?_; rintro e w9 ⟨⟨r9, rfl, ho9⟩, hg9⟩; obtain ⟨rb, rd, rfl, hB⟩ := IlS.slot ho9; clear ho9; replace hA := hA.gr hg9) | (go_at_call 18; have hS := ‹_ ∧ _ ∧ _ ∧ Gr u5 _›; refine (bnodes_any (HG5.out.gr hS.2.2.2) sc2).mono ?_; rintro e w9 ⟨⟨r9, rfl, ho9⟩, hg9⟩; obtain ⟨rf, rg, rfl, hC⟩ := IlS.slot ho9; clear ho9) | (go_at_call 19; have hS := ‹_ ∧ _ ∧ _ ∧ Gr u5 _›; refine (rnodes_any W H _ N cm F sc2 _ (HS5.out.gr hS.2.2.2)).mono ?_; rintro e w9 ⟨⟨r9, rfl, ho9⟩, hg9⟩; obtain ⟨rh, rk, rfl, hD⟩ := IlS.slot ho9; clear ho9; replace hC := hC.gr hg9) | (go_at_call 15; have hS := ‹_ ∧ _ ∧ _ ∧ Gr u5 _›; (first | (with_reducible refine (ints_same _ _ _ _ _ _ _ hC.sli hD.sli HN60.out).mono ?_) | (with_reducible refine (ints_same _ _ _ _ _ _ _ hA.sli hB.sli HL25.out).mono ?_)); rintro e w9 ⟨rfl, hd9⟩; have hg9 := hd9.gr; clear hd9) | (go_at_call 21; have hS := ‹_ ∧ _ ∧ _ ∧ Gr u5 _›; refine (bruns_any (HG5.out.gr hS.2.2.2) sc2 sd2).mono ?_; rintro e w9 ⟨⟨r9, rfl, ho9⟩, hg9⟩; obtain ⟨rm, rn, rfl, hE⟩ := PlS.of_own ho9; clear ho9) | (go_at_call 22; have hS := ‹_ ∧ _ ∧ _ ∧ Gr u5 _›; refine (rruns_any W H _ N cm F sc2 sd2 _ (HS5.out.gr hS.2.2.2)).mono ?_; rintro e w9 ⟨⟨r9, rfl, ho9⟩, hg9⟩; obtain ⟨rp, rq, rfl, hF⟩ := PlS.of_own ho9; clear ho9; replace hE := hE.gr hg9) | (go_at_call 20; have hS := ‹_ ∧ _ ∧ _ ∧ Gr u5 _›; refine (runs_same _ _ _ _ _ _ _ hE hF).mono ?_; rintro e w9 ⟨rfl, hd9⟩; have hg9 := hd9.gr; clear hd9) | (go_at_call 24; have hS := ‹_ ∧ _ ∧ _ ∧ Gr u5 _›; refine (bcross_any (HG5.out.gr hS.2.2.2) ce2).mono ?_; rintro e w9 ⟨⟨r9, rfl, ho9⟩, hg9⟩; rw [HCN.out] at ho9; obtain ⟨rs, rt, rfl, hH⟩ := PlS.of_own ho9; clear ho9) | (go_at_call 23; have hS := ‹_ ∧ _ ∧ _ ∧ Gr u5 _›; refine (edges_same _ _ _ _ _ _ _ hH (HX5.out.gr hS.2.2.2)).mono ?_; rintro e w9 ⟨rfl, hd9⟩; have hg9 := hd9.gr; clear hd9))
      go_wp2_with fail
      go_ret
      exact ⟨ret_bool (by simp), HGR5.out.trans (‹_ ∧ _ ∧ _ ∧ Gr u5 _›).2.2.2⟩
    · go_wp2_with (go_at_call 12; refine (risCell_any _ _ _ _).mono ?_; rintro e u4 ⟨rfl, hd4⟩; rw [hic]; replace c1 := cell_gr c1 hd4.gr; replace c2 := cell_gr c2 hd4.gr; replace c3 := cell_gr c3 hd4.gr)
      refine (rcross_any W H _ N cm F ce2 _ (hsl.gr hd4.gr)).mono ?_
      rintro e u5 ⟨⟨v5, rfl, hown⟩, hg5⟩
      obtain ⟨a5, cp5, rfl, hx⟩ := PlS.of_own hown
      replace hg5 := hd4.gr.trans hg5
      clear hown hd4 hic
      have HG5 := hide (HG.out.gr hg5)
      have HS5 := hide (hsl.gr hg5)
      have HX5 := hide hx
      have HGR5 := hide (hgr.trans hg5)
      obtain ⟨c1, c2, c3, -, -, -⟩ := row_cells (row_gr hBm hg5)
      clear hx hg5
      go_wp2_with fail
      go_region_held3 (fun z => z.cell? ⟨B0, 0, none⟩ = some (.int .i64 W) ∧ z.cell? ⟨B0, 1, none⟩ = some (.int .i64 H) ∧ z.cell? ⟨B0, 2, none⟩ = some (.slice (some ⟨gm, 0, none⟩) N cm) ∧ Gr u5 z) (first | exact ⟨c1, c2, c3, (Gr.refl _).drew⟩ | exact ⟨cell_gr hS.1 hg9, cell_gr hS.2.1 hg9, cell_gr hS.2.2.1 hg9, hS.2.2.2.trans hg9⟩) (first | (go_at_call 14; have hS := ‹_ ∧ _ ∧ _ ∧ Gr u5 _›; refine (told11_any _).mono ?_; rintro e w9 ⟨rfl, hg9⟩) | (go_at_call 16; have hS := ‹_ ∧ _ ∧ _ ∧ Gr u5 _›; refine (bcells_any W H sc2 _).mono ?_; rintro e w9 ⟨⟨r9, rfl, ho9⟩, hg9⟩; obtain ⟨ra, rc, rfl, hA⟩ := IlS.slot ho9; clear ho9) | (go_at_call 17; have hS := ‹_ ∧ _ ∧ _ ∧ Gr u5 _›; refine (rcells_any W H sc2 _).mono ?_; rintro e w9 ⟨⟨r9, rfl, ho9⟩, hg9⟩; obtain ⟨rb, rd, rfl, hB⟩ := IlS.slot ho9; clear ho9; replace hA := hA.gr hg9) | (go_at_call 18; have hS := ‹_ ∧ _ ∧ _ ∧ Gr u5 _›; refine (bnodes_any (HG5.out.gr hS.2.2.2) sc2).mono ?_; rintro e w9 ⟨⟨r9, rfl, ho9⟩, hg9⟩; obtain ⟨rf, rg, rfl, hC⟩ := IlS.slot ho9; clear ho9) | (go_at_call 19; have hS := ‹_ ∧ _ ∧ _ ∧ Gr u5 _›; refine (rnodes_any W H _ N cm F sc2 _ (HS5.out.gr hS.2.2.2)).mono ?_; rintro e w9 ⟨⟨r9, rfl, ho9⟩, hg9⟩; obtain ⟨rh, rk, rfl, hD⟩ := IlS.slot ho9; clear ho9; replace hC := hC.gr hg9) | (go_at_call 15; have hS := ‹_ ∧ _ ∧ _ ∧ Gr u5 _›; (first | (with_reducible refine (ints_same _ _ _ _ _ _ _ hC.sli hD.sli HN60.out).mono ?_) | (with_reducible refine (ints_same _ _ _ _ _ _ _ hA.sli hB.sli HL25.out).mono ?_)); rintro e w9 ⟨rfl, hd9⟩; have hg9 := hd9.gr; clear hd9) | (go_at_call 21; have hS := ‹_ ∧ _ ∧ _ ∧ Gr u5 _›; refine (bruns_any (HG5.out.gr hS.2.2.2) sc2 sd2).mono ?_; rintro e w9 ⟨⟨r9, rfl, ho9⟩, hg9⟩; obtain ⟨rm, rn, rfl, hE⟩ := PlS.of_own ho9; clear ho9) | (go_at_call 22; have hS := ‹_ ∧ _ ∧ _ ∧ Gr u5 _›; refine (rruns_any W H _ N cm F sc2 sd2 _ (HS5.out.gr hS.2.2.2)).mono ?_; rintro e w9 ⟨⟨r9, rfl, ho9⟩, hg9⟩; obtain ⟨rp, rq, rfl, hF⟩ := PlS.of_own ho9; clear ho9; replace hE := hE.gr hg9) | (go_at_call 20; have hS := ‹_ ∧ _ ∧ _ ∧ Gr u5 _›; refine (runs_same _ _ _ _ _ _ _ hE hF).mono ?_; rintro e w9 ⟨rfl, hd9⟩; have hg9 := hd9.gr; clear hd9) | (go_at_call 24; have hS := ‹_ ∧ _ ∧ _ ∧ Gr u5 _›; refine (bcross_any (HG5.out.gr hS.2.2.2) ce2).mono ?_; rintro e w9 ⟨⟨r9, rfl, ho9⟩, hg9⟩; obtain ⟨rs, rt, rfl, hH⟩ := PlS.of_own ho9; clear ho9) | (go_at_call 23; have hS := ‹_ ∧ _ ∧ _ ∧ Gr u5 _›; refine (edges_same _ _ _ _ _ _ _ hH (HX5.out.gr hS.2.2.2)).mono ?_; rintro e w9 ⟨rfl, hd9⟩; have hg9 := hd9.gr; clear hd9))
      go_wp2_with fail
      go_ret
      exact ⟨ret_bool (by simp), HGR5.out.trans (‹_ ∧ _ ∧ _ ∧ Gr u5 _›).2.2.2⟩
  · go_wp2_with fail
    replace HL25 := hide (HL25.out sc)
    replace HN60 := hide (HN60.out sc)
    cases hic : isCellB W H ce
    · have hcn := cross_nowhere (f := F) HM.out.1 HM.out.2 hic
      go_wp2_with (go_at_call 12; refine (risCell_any _ _ _ _).mono ?_; rintro e u5 ⟨rfl, hd5⟩; rw [hic])
      have hx : PlS u5 none 0 0 [] := ⟨rfl, Nat.le_refl _, Nat.zero_le _, .inl rfl⟩
      have hg5 := hd5.gr
      have HCN := hide hcn
      clear hd5 hcn hic
      have HG5 := hide (HG.out.gr hg5)
      have HS5 := hide (hsl.gr hg5)
      have HX5 := hide hx
      have HGR5 := hide (hgr.trans hg5)
      obtain ⟨c1, c2, c3, -, -, -⟩ := row_cells (row_gr hBm hg5)
      clear hx hg5
      go_wp2_with fail
      go_region_held3 (fun z => z.cell? ⟨B0, 0, none⟩ = some (.int .i64 W) ∧ z.cell? ⟨B0, 1, none⟩ = some (.int .i64 H) ∧ z.cell? ⟨B0, 2, none⟩ = some (.slice (some ⟨gm, 0, none⟩) N cm) ∧ Gr u5 z) (first | exact ⟨c1, c2, c3, (Gr.refl _).drew⟩ | exact ⟨cell_gr hS.1 hg9, cell_gr hS.2.1 hg9, cell_gr hS.2.2.1 hg9, hS.2.2.2.trans hg9⟩) (first | (go_at_call 14; have hS := ‹_ ∧ _ ∧ _ ∧ Gr u5 _›; refine (told11_any _).mono ?_; rintro e w9 ⟨rfl, hg9⟩) | (go_at_call 16; have hS := ‹_ ∧ _ ∧ _ ∧ Gr u5 _›; refine (bcells_any W H sc _).mono ?_; rintro e w9 ⟨⟨r9, rfl, ho9⟩, hg9⟩; obtain ⟨ra, rc, rfl, hA⟩ := IlS.slot ho9; clear ho9) | (go_at_call 17; have hS := ‹_ ∧ _ ∧ _ ∧ Gr u5 _›; refine (rcells_any W H sc _).mono ?_; rintro e w9 ⟨⟨r9, rfl, ho9⟩, hg9⟩; obtain ⟨rb, rd, rfl, hB⟩ := IlS.slot ho9; clear ho9; replace hA := hA.gr hg9) | (go_at_call 18; have hS := ‹_ ∧ _ ∧ _ ∧ Gr u5 _›; refine (bnodes_any (HG5.out.gr hS.2.2.2) sc).mono ?_; rintro e w9 ⟨⟨r9, rfl, ho9⟩, hg9⟩; obtain ⟨rf, rg, rfl, hC⟩ := IlS.slot ho9; clear ho9) | (go_at_call 19; have hS := ‹_ ∧ _ ∧ _ ∧ Gr u5 _›; refine (rnodes_any W H _ N cm F sc _ (HS5.out.gr hS.2.2.2)).mono ?_; rintro e w9 ⟨⟨r9, rfl, ho9⟩, hg9⟩; obtain ⟨rh, rk, rfl, hD⟩ := IlS.slot ho9; clear ho9; replace hC := hC.gr hg9) | (go_at_call 15; have hS := ‹_ ∧ _ ∧ _ ∧ Gr u5 _›; (first | (with_reducible refine (ints_same _ _ _ _ _ _ _ hC.sli hD.sli HN60.out).mono ?_) | (with_reducible refine (ints_same _ _ _ _ _ _ _ hA.sli hB.sli HL25.out).mono ?_)); rintro e w9 ⟨rfl, hd9⟩; have hg9 := hd9.gr; clear hd9) | (go_at_call 21; have hS := ‹_ ∧ _ ∧ _ ∧ Gr u5 _›; refine (bruns_any (HG5.out.gr hS.2.2.2) sc sd).mono ?_; rintro e w9 ⟨⟨r9, rfl, ho9⟩, hg9⟩; obtain ⟨rm, rn, rfl, hE⟩ := PlS.of_own ho9; clear ho9) | (go_at_call 22; have hS := ‹_ ∧ _ ∧ _ ∧ Gr u5 _›; refine (rruns_any W H _ N cm F sc sd _ (HS5.out.gr hS.2.2.2)).mono ?_; rintro e w9 ⟨⟨r9, rfl, ho9⟩, hg9⟩; obtain ⟨rp, rq, rfl, hF⟩ := PlS.of_own ho9; clear ho9; replace hE := hE.gr hg9) | (go_at_call 20; have hS := ‹_ ∧ _ ∧ _ ∧ Gr u5 _›; refine (runs_same _ _ _ _ _ _ _ hE hF).mono ?_; rintro e w9 ⟨rfl, hd9⟩; have hg9 := hd9.gr; clear hd9) | (go_at_call 24; have hS := ‹_ ∧ _ ∧ _ ∧ Gr u5 _›; refine (bcross_any (HG5.out.gr hS.2.2.2) ce).mono ?_; rintro e w9 ⟨⟨r9, rfl, ho9⟩, hg9⟩; rw [HCN.out] at ho9; obtain ⟨rs, rt, rfl, hH⟩ := PlS.of_own ho9; clear ho9) | (go_at_call 23; have hS := ‹_ ∧ _ ∧ _ ∧ Gr u5 _›; refine (edges_same _ _ _ _ _ _ _ hH (HX5.out.gr hS.2.2.2)).mono ?_; rintro e w9 ⟨rfl, hd9⟩; have hg9 := hd9.gr; clear hd9))
      go_wp2_with fail
      go_ret
      exact ⟨ret_bool (by simp), HGR5.out.trans (‹_ ∧ _ ∧ _ ∧ Gr u5 _›).2.2.2⟩
    · go_wp2_with (go_at_call 12; refine (risCell_any _ _ _ _).mono ?_; rintro e u4 ⟨rfl, hd4⟩; rw [hic]; replace c1 := cell_gr c1 hd4.gr; replace c2 := cell_gr c2 hd4.gr; replace c3 := cell_gr c3 hd4.gr)
      refine (rcross_any W H _ N cm F ce _ (hsl.gr hd4.gr)).mono ?_
      rintro e u5 ⟨⟨v5, rfl, hown⟩, hg5⟩
      obtain ⟨a5, cp5, rfl, hx⟩ := PlS.of_own hown
      replace hg5 := hd4.gr.trans hg5
      clear hown hd4 hic
      have HG5 := hide (HG.out.gr hg5)
      have HS5 := hide (hsl.gr hg5)
      have HX5 := hide hx
      have HGR5 := hide (hgr.trans hg5)
      obtain ⟨c1, c2, c3, -, -, -⟩ := row_cells (row_gr hBm hg5)
      clear hx hg5
      go_wp2_with fail
      go_region_held3 (fun z => z.cell? ⟨B0, 0, none⟩ = some (.int .i64 W) ∧ z.cell? ⟨B0, 1, none⟩ = some (.int .i64 H) ∧ z.cell? ⟨B0, 2, none⟩ = some (.slice (some ⟨gm, 0, none⟩) N cm) ∧ Gr u5 z) (first | exact ⟨c1, c2, c3, (Gr.refl _).drew⟩ | exact ⟨cell_gr hS.1 hg9, cell_gr hS.2.1 hg9, cell_gr hS.2.2.1 hg9, hS.2.2.2.trans hg9⟩) (first | (go_at_call 14; have hS := ‹_ ∧ _ ∧ _ ∧ Gr u5 _›; refine (told11_any _).mono ?_; rintro e w9 ⟨rfl, hg9⟩) | (go_at_call 16; have hS := ‹_ ∧ _ ∧ _ ∧ Gr u5 _›; refine (bcells_any W H sc _).mono ?_; rintro e w9 ⟨⟨r9, rfl, ho9⟩, hg9⟩; obtain ⟨ra, rc, rfl, hA⟩ := IlS.slot ho9; clear ho9) | (go_at_call 17; have hS := ‹_ ∧ _ ∧ _ ∧ Gr u5 _›; refine (rcells_any W H sc _).mono ?_; rintro e w9 ⟨⟨r9, rfl, ho9⟩, hg9⟩; obtain ⟨rb, rd, rfl, hB⟩ := IlS.slot ho9; clear ho9; replace hA := hA.gr hg9) | (go_at_call 18; have hS := ‹_ ∧ _ ∧ _ ∧ Gr u5 _›; refine (bnodes_any (HG5.out.gr hS.2.2.2) sc).mono ?_; rintro e w9 ⟨⟨r9, rfl, ho9⟩, hg9⟩; obtain ⟨rf, rg, rfl, hC⟩ := IlS.slot ho9; clear ho9) | (go_at_call 19; have hS := ‹_ ∧ _ ∧ _ ∧ Gr u5 _›; refine (rnodes_any W H _ N cm F sc _ (HS5.out.gr hS.2.2.2)).mono ?_; rintro e w9 ⟨⟨r9, rfl, ho9⟩, hg9⟩; obtain ⟨rh, rk, rfl, hD⟩ := IlS.slot ho9; clear ho9; replace hC := hC.gr hg9) | (go_at_call 15; have hS := ‹_ ∧ _ ∧ _ ∧ Gr u5 _›; (first | (with_reducible refine (ints_same _ _ _ _ _ _ _ hC.sli hD.sli HN60.out).mono ?_) | (with_reducible refine (ints_same _ _ _ _ _ _ _ hA.sli hB.sli HL25.out).mono ?_)); rintro e w9 ⟨rfl, hd9⟩; have hg9 := hd9.gr; clear hd9) | (go_at_call 21; have hS := ‹_ ∧ _ ∧ _ ∧ Gr u5 _›; refine (bruns_any (HG5.out.gr hS.2.2.2) sc sd).mono ?_; rintro e w9 ⟨⟨r9, rfl, ho9⟩, hg9⟩; obtain ⟨rm, rn, rfl, hE⟩ := PlS.of_own ho9; clear ho9) | (go_at_call 22; have hS := ‹_ ∧ _ ∧ _ ∧ Gr u5 _›; refine (rruns_any W H _ N cm F sc sd _ (HS5.out.gr hS.2.2.2)).mono ?_; rintro e w9 ⟨⟨r9, rfl, ho9⟩, hg9⟩; obtain ⟨rp, rq, rfl, hF⟩ := PlS.of_own ho9; clear ho9; replace hE := hE.gr hg9) | (go_at_call 20; have hS := ‹_ ∧ _ ∧ _ ∧ Gr u5 _›; refine (runs_same _ _ _ _ _ _ _ hE hF).mono ?_; rintro e w9 ⟨rfl, hd9⟩; have hg9 := hd9.gr; clear hd9) | (go_at_call 24; have hS := ‹_ ∧ _ ∧ _ ∧ Gr u5 _›; refine (bcross_any (HG5.out.gr hS.2.2.2) ce).mono ?_; rintro e w9 ⟨⟨r9, rfl, ho9⟩, hg9⟩; obtain ⟨rs, rt, rfl, hH⟩ := PlS.of_own ho9; clear ho9) | (go_at_call 23; have hS := ‹_ ∧ _ ∧ _ ∧ Gr u5 _›; refine (edges_same _ _ _ _ _ _ _ hH (HX5.out.gr hS.2.2.2)).mono ?_; rintro e w9 ⟨rfl, hd9⟩; have hg9 := hd9.gr; clear hd9))
      go_wp2_with fail
      go_ret
      exact ⟨ret_bool (by simp), HGR5.out.trans (‹_ ∧ _ ∧ _ ∧ Gr u5 _›).2.2.2⟩
end Go.Proofs.Ytanihjgpdfploaa
