/- MeshBuilds: rebuilt, a mesh has the nodes, the distances, the edges that the document says. No condition. -/
import Derived.Test.YtgbadbkipaccgaaGreatMBuilt14
import Derived.Test.YtgbadbkipaccgaaGreatMRInto14
import Derived.Test.YtgbadbkipaccgaaGreatBSame11
namespace Go.Proofs.YtgbadbkipaccgaaGreat
open Go.RowKit
set_option maxRecDepth 20000

theorem into_none (W H : Int) (N : Nat) (f : Nat → Int) (b : Int) : intoL W H N (fun _ => 255) f b = [] := by
  unfold intoL
  rw [if_neg (by rw [nod_wall]; simp)]
theorem dist_none (W H : Int) (N : Nat) (a b : Int) : distF W H N (fun _ => 255) a b = 1099511627776 := dist_not (fun k => by rw [nod_wall] at k; cases k.1)
theorem PlS.slot {w : World} {base : Nat} {e : TypeId} {v : Value} {L : List (Int × Int)} (h : w.ownsRow base e 2 v L.length (flatP L)) : ∃ a c, v = .slice a L.length c ∧ PlS w a L.length c L := PlS.of_own h

set_option maxHeartbeats 1000000 in
theorem meshBuilds_any (x y : Int) (a : Option Addr) (n cap : Nat) (f : Nat → Int) (sc ca cb : Int) (raw : Bool) (w : World) (h : Sl w a n f) (hn : n ≤ maxLen) :
    Calls Tryz.prog 3 #[.int .i64 x, .int .i64 y, .slice a n cap, .int .i64 sc, .int .i64 ca, .int .i64 cb, .bool raw] w fun e w' => e = .returned (.bool true) ∧ Gr w w' := by
  go_enter Tryz.func3, Tryz.ntmps3
  go_wp2_with fail
  refine (built_any x y a n cap f w h hn).mono ?_
  rintro e w1 ⟨W, H, N, gm, cm, F, p, q, gp, c, v, B, cc, rfl, hb⟩
  have hga : Gr w1 (w1.alloc (.cells #[.int .i64 W, .int .i64 H, .slice (some ⟨gm, 0, none⟩) N cm] 24)) := (Gr.refl w1).alloc _
  have hBm := tri_alloc w1 (.int .i64 W) (.int .i64 H) (.slice (some ⟨gm, 0, none⟩) N cm) 24
  obtain ⟨hsl, hfar, hcap, hmay, hbig, hduo⟩ := hb
  replace hsl := hsl.gr hga
  have hD := hduo.more hga
  have hfB : ∀ b, (b = p ∨ b = q) → b ≠ w1.heap.size := fun b e => by have := hduo.ms.apart; omega
  have HFA := hide hfar
  have HMAY := hide hmay
  obtain ⟨hmb, hNm, -⟩ := (mayM_iff _ _ _ _).1 hmay
  have hcn := (cntS_eq hmb).2
  have hci := cntS_int W H
  have HNM := hide hNm
  clear hduo hfar hmay h hn hNm
  go_wp2_with fail
  generalize (w1.alloc (.cells #[.int .i64 W, .int .i64 H, .slice (some ⟨gm, 0, none⟩) N cm] 24)) = u1 at *
  obtain ⟨B0, hB0⟩ : ∃ B0, w1.heap.size = B0 := ⟨_, rfl⟩
  rw [hB0] at hBm hfB ⊢
  obtain ⟨c1, c2, c3, -, -, -⟩ := row_cells hBm
  clear hga hB0
  go_wp2_with fail
  refine (rcount_any W H _).mono ?_
  rintro e w3 ⟨rfl, hd3⟩
  rw [← hci]
  replace c1 := cell_gr c1 hd3.gr
  replace c2 := cell_gr c2 hd3.gr
  replace c3 := cell_gr c3 hd3.gr
  replace hBm := row_gr hBm hd3.gr
  have HD3 := hide (hD.more hd3.gr)
  have HSL3 := hide (hsl.gr hd3.gr)
  obtain ⟨C, hC⟩ : ∃ C, cntS W H = C := ⟨_, rfl⟩
  rw [hC] at hcn ⊢
  have HC := hide hC
  clear hD hsl hd3 hci hC
  go_upto_if 38 with fail
  go_cut [3, 4, 5] from 39 (fun s a b u => ∃ s' a' b' : Int, s = .int .i64 s' ∧ a = .int .i64 a' ∧ b = .int .i64 b' ∧ Dr w3 u)
  case first =>
    cases raw
    · have HW : Hid (∀ (z : Int) (k : Nat), k ≤ 10000 → ∀ u, Calls Tryz.prog 10 #[.int .i64 z, .int .i64 (-1), .int .i64 (k : Int)] u fun e w' => e = .returned (.int .i64 (withinF z (-1) (k : Int))) ∧ Dr u w') := hide fun z k hk u => within_any z (-1) (k : Int) u (by omega) (by omega) (by omega)
      go_wp2_with fail
      go_quiet ((go_at_call 10; refine Dr.quiet (HW.out _ _ (by omega) _)))
      go_wp2_with fail
      go_meet
      exact ⟨_, _, _, rfl, rfl, rfl, nq, rfl⟩
    · go_wp2_with fail
      go_meet
      exact ⟨_, _, _, rfl, rfl, rfl, Dr.refl _⟩
  case rest =>
    obtain ⟨s', a', b', rfl, rfl, rfl, hd4⟩ := hcut
    have HD4 := hide (HD3.out.more hd4.gr)
    have HSL4 := hide (HSL3.out.gr hd4.gr)
    have HBM4 := hide (row_gr hBm hd4.gr)
    have hCu : IntKind.u64.wrap (C : Int) = (C : Int) := by simp [IntKind.wrap, IntKind.bits, IntKind.signed]; omega
    have HLB := hide hfB
    clear HD3 HSL3 hBm hd4 c1 c2 c3 hfB
    go_wp2_with fail
    refine (mnodes_any HD4.out.ms s').mono ?_
    rintro e w5 ⟨⟨v5, rfl, ho5⟩, hg5⟩
    rw [nodes_none] at ho5
    obtain ⟨a5, k5, rfl, -⟩ := IlS.slot (w := w5) ho5
    have HD5 := hide (HD4.out.more hg5)
    clear ho5
    go_wp2_with fail
    refine (minto_any HD5.out.ms HD5.out.gd b').mono ?_
    rintro e w6 ⟨⟨v6, rfl, ho6⟩, hg6⟩
    rw [into_none] at ho6
    obtain ⟨a6, k6, rfl, -⟩ := PlS.slot (w := w6) ho6
    have HD6 := hide (HD5.out.more hg6)
    have hg46 := hg5.trans hg6
    clear ho6 HD4 HD5 hg5 hg6
    go_wp2_with fail
    refine (mDist_any HD6.out.ms HD6.out.gd a' b').mono ?_
    rintro e w7 ⟨rfl, hg7⟩
    rw [dist_none]
    have HD7 := hide (HD6.out.more hg7)
    go_wp2_with fail
    refine (mcount_any HD7.out.ms).mono ?_
    rintro e w8 ⟨rfl, hd8⟩
    have HD8 := hide (HD7.out.more hd8.gr)
    have hg48 := (hg46.trans hg7).trans hd8.gr
    have HSL8 := hide (HSL4.out.gr hg48)
    have HBM8 := hide (row_gr HBM4.out hg48)
    clear HD6 HD7 hg46 hg7 hd8 hg48 HSL4 HBM4
    go_wp2_with fail
    refine (duo_rebuild HD8.out (by omega)).mono ?_
    rintro e w9 ⟨rfl, hD9, hk9⟩
    have e5 : (dirL (fun _ => 0) (fun _ => 1) (cntS W H)).length = C := by rw [dir_all (fun s _ => by omega)]; exact HC.out
    rw [e5] at hD9 ⊢
    rw [Int.zero_add] at hD9
    have HD9 := hide hD9
    have HSL9 := hide (hk9.sl HSL8.out (fun e => HFA.out gm (by omega) rfl))
    have hBm := hk9.row HBM8.out (fun e => HLB.out B0 e rfl)
    clear hD9 HD8 HSL8 HBM8 hk9 e5
    go_wp2_with fail
    refine (mcount_any HD9.out.ms).mono ?_
    rintro e w10 ⟨rfl, hd10⟩
    have HD10 := hide (HD9.out.more hd10.gr)
    go_wp2_with fail
    refine (mdirty_any HD10.out.ms HD10.out.gd).mono ?_
    rintro e w11 ⟨⟨v11, rfl, ho11⟩, hg11⟩
    rw [dir_none (fun s _ => rfl)] at ho11
    obtain ⟨a11, k11, rfl, -⟩ := IlS.slot (w := w11) ho11
    have hg911 := hd10.gr.trans hg11
    have HD11 := hide (HD9.out.more hg911)
    have HSL11 := hide (HSL9.out.gr hg911)
    have HBM11 := hide (row_gr hBm hg911)
    obtain ⟨c1, c2, c3, -, -, -⟩ := row_cells HBM11.out
    clear ho11 HD9 HD10 HSL9 hBm hd10 hg11 hg911
    go_wp2_with fail
    refine (rnodes_any W H _ N cm F s' _ HSL11.out).mono ?_
    rintro e w12 ⟨⟨v12, rfl, ho12⟩, hg12⟩
    have HD12 := hide (HD11.out.more hg12)
    have HSL12 := hide (HSL11.out.gr hg12)
    have HBM12 := hide (row_gr HBM11.out hg12)
    have h60 := cellsL_len W H s'
    have h61 : (nodesL W H N F s').length ≤ (cellsL W H s').length := by unfold nodesL; exact List.length_filter_le _ _
    obtain ⟨L, hL⟩ : ∃ L, nodesL W H N F s' = L := ⟨_, rfl⟩
    rw [hL] at ho12 h61
    obtain ⟨nn, hnn⟩ : ∃ nn, L.length = nn := ⟨_, rfl⟩
    rw [hnn] at ho12 h61
    have HL := hide hL
    have HNN := hide hnn
    obtain ⟨al, cl, rfl, hil⟩ := IlS.of_own ho12 hnn
    have HIL := hide hil
    obtain ⟨d1, d2, d3, -, -, -⟩ := row_cells HBM12.out
    clear HD11 HSL11 HBM11 c1 c2 c3 hg12 ho12 hL hnn hil
    go_upto_region 10 with fail
    go_region_held3 (fun z => z.cell? ⟨B0, 0, none⟩ = some (.int .i64 W) ∧ z.cell? ⟨B0, 1, none⟩ = some (.int .i64 H) ∧ z.cell? ⟨B0, 2, none⟩ = some (.slice (some ⟨gm, 0, none⟩) N cm) ∧ Gr w12 z) ((refine keepG ⟨d1, d2, d3⟩ ?_; exact (by (repeat (first | (with_reducible exact Gr.refl _) | (with_reducible assumption) | (with_reducible refine Gr.alloc ?_ _) | (with_reducible refine Gr.drew ?_) | (with_reducible refine Gr.set ?_ (by dsimp only; omega) _) | (with_reducible refine Gr.trans ?_ (by with_reducible assumption)))); first | done | fail))) (first
      | (go_at_call 11; have hS := ‹_ ∧ _ ∧ _ ∧ Gr w12 _›; refine (mnodes_any (HD12.out.more hS.2.2.2).ms s').mono ?_; rintro e x1 ⟨⟨y1, rfl, hy1⟩, hx1⟩; rw [HL.out, HNN.out] at hy1; obtain ⟨al1, cl1, rfl, hil1⟩ := IlS.of_own hy1 HNN.out)
      | (go_at_call 18; have hS := ‹_ ∧ _ ∧ _ ∧ Gr w12 _›; refine (ints_same _ _ nn _ _ _ _ hil1.sli (HIL.out.gr hS.2.2.2).sli (by omega)).mono ?_; rintro e x2 ⟨rfl, hd2⟩; have hx2 := hd2.gr)
      | (go_at_call 13; have hS := ‹_ ∧ _ ∧ _ ∧ Gr w12 _›; refine (mDist_any (HD12.out.more hS.2.2.2).ms (HD12.out.more hS.2.2.2).gd a' b').mono ?_; rintro e x3 ⟨rfl, hx3⟩)
      | (go_at_call 19; have hS := ‹_ ∧ _ ∧ _ ∧ Gr w12 _›; refine (rdist_any W H _ N cm F a' b' _ (HSL12.out.gr hS.2.2.2) HMAY.out).mono ?_; rintro e x4 ⟨rfl, hx4⟩)
      | (go_at_call 12; have hS := ‹_ ∧ _ ∧ _ ∧ Gr w12 _›; refine (minto_any (HD12.out.more hS.2.2.2).ms (HD12.out.more hS.2.2.2).gd b').mono ?_; rintro e x5 ⟨⟨y5, rfl, hy5⟩, hx5⟩; obtain ⟨al5, cl5, rfl, hil5⟩ := PlS.slot hy5)
      | (go_at_call 21; have hS := ‹_ ∧ _ ∧ _ ∧ Gr w12 _›; refine (rinto_any W H _ N cm F b' _ (HSL12.out.gr hS.2.2.2) HMAY.out).mono ?_; rintro e x6 ⟨⟨y6, rfl, hy6⟩, hx6⟩; obtain ⟨al6, cl6, rfl, hil6⟩ := PlS.slot hy6; have hil56 := hil5.gr hx6)
      | (go_at_call 20; refine (edges_same _ _ _ _ _ _ _ hil56 hil6).mono ?_; rintro e x7 ⟨rfl, hd7⟩; have hx7 := hd7.gr))
    have hgx : Gr w12 x7 := (by (repeat (first | (with_reducible exact Gr.refl _) | (with_reducible assumption) | (with_reducible refine Gr.alloc ?_ _) | (with_reducible refine Gr.drew ?_) | (with_reducible refine Gr.set ?_ (by dsimp only; omega) _) | (with_reducible refine Gr.trans ?_ (by with_reducible assumption)))); first | done | fail)
    have HD13 := hide (HD12.out.more hgx)
    have HSL13 := hide (HSL12.out.gr hgx)
    have HBM13 := hide (row_gr HBM12.out hgx)
    have HIL13 := hide (HIL.out.gr hgx)
    clear hx7 hd7 hil6 hil56 hx6 hy6 hil5 hx5 hy5 hx4 hx3 hx2 hd2 hil1 hy1 hx1 d1 d2 d3 HD12 HSL12 HBM12 HIL hgx
    obtain ⟨d1, d2, d3, -, -, -⟩ := row_cells HBM13.out
    by_cases hn0 : nn = 0
    · have hn0I : ¬ 0 < (nn : Int) := by omega
      go_wp2_with (go_at_call 22; refine (told14_any _).mono ?_; rintro e x8 ⟨rfl, hx8⟩)
      go_ret
      exact ⟨rfl, (HD13.out.more hx8).gr⟩
    · have hn0I : 0 < (nn : Int) := by omega
      obtain ⟨k, hk⟩ : ∃ k, nn = k + 1 := ⟨nn - 1, by omega⟩
      have hwk : IntKind.i64.wrap ((nn : Int) - 1) = (k : Int) := by rw [wrapI (by omega)]; omega
      obtain ⟨iF, hiF⟩ : ∃ iF : Int → Nat, ∀ z, withinF z 0 (k : Int) = (iF z : Int) ∧ iF z < nn := ⟨fun z => (withinF z 0 (k : Int)).toNat, fun z => by have := within_bd z 0 (k : Int) (by omega); exact ⟨(Int.toNat_of_nonneg this.1).symm, by show (withinF z 0 (k : Int)).toNat < nn; omega⟩⟩
      have HW : Hid (∀ z u, Dr x7 u → Calls Tryz.prog 10 #[.int .i64 z, .int .i64 0, .int .i64 (k : Int)] u fun e w' => e = .returned (.int .i64 (iF z : Int)) ∧ Dr u w') := hide fun z u _ => by
        rw [← (hiF z).1]
        exact within_any z 0 (k : Int) u (by omega) (by omega) (by omega)
      obtain ⟨bl, ol, rfl, hBl, hcl⟩ := HIL13.out.at (by omega)
      have l1 := hcl (iF a') (hiF a').2
      have l2 := hcl (iF b') (hiF b').2
      have i1 : (iF a' : Int) < (nn : Int) := by have := (hiF a').2; omega
      have i2 : (iF b' : Int) < (nn : Int) := by have := (hiF b').2; omega
      have j1 : 0 ≤ (iF a' : Int) := by omega
      have j2 : 0 ≤ (iF b' : Int) := by omega
      generalize ((L.getD (iF a') 0 : Nat) : Int) = p1 at l1
      generalize ((L.getD (iF b') 0 : Nat) : Int) = q1 at l2
      clear hcl hk hiF
      go_wp2_with fail
      go_quiet ((go_at_call 10; refine Dr.quiet (HW.out _ _ ⟨_, rfl⟩)))
      have HD14 := hide (HD13.out.more ((Gr.refl x7).drewN nq))
      have HSL14 := hide (HSL13.out.gr ((Gr.refl x7).drewN nq))
      replace d1 := cell_gr d1 ((Gr.refl x7).drewN nq)
      replace d2 := cell_gr d2 ((Gr.refl x7).drewN nq)
      replace d3 := cell_gr d3 ((Gr.refl x7).drewN nq)
      generalize x7.drewN nq = w14 at *
      clear l1 l2 HW HD13 HSL13 HBM13 HIL13
      go_wp2_with fail
      go_region_held3 (fun z => z.cell? ⟨B0, 0, none⟩ = some (.int .i64 W) ∧ z.cell? ⟨B0, 1, none⟩ = some (.int .i64 H) ∧ z.cell? ⟨B0, 2, none⟩ = some (.slice (some ⟨gm, 0, none⟩) N cm) ∧ Gr w14 z) ((refine keepG ⟨d1, d2, d3⟩ ?_; exact (by (repeat (first | (with_reducible exact Gr.refl _) | (with_reducible assumption) | (with_reducible refine Gr.alloc ?_ _) | (with_reducible refine Gr.drew ?_) | (with_reducible refine Gr.set ?_ (by dsimp only; omega) _) | (with_reducible refine Gr.trans ?_ (by with_reducible assumption)))); first | done | fail))) (first
        | (go_at_call 22; refine (told14_any _).mono ?_; rintro e x1 ⟨rfl, hx1⟩)
        | (go_at_call 13; have hS := ‹_ ∧ _ ∧ _ ∧ Gr w14 _›; refine (mDist_any (HD14.out.more hS.2.2.2).ms (HD14.out.more hS.2.2.2).gd p1 q1).mono ?_; rintro e x3 ⟨rfl, hx3⟩)
        | (go_at_call 19; have hS := ‹_ ∧ _ ∧ _ ∧ Gr w14 _›; refine (rdist_any W H _ N cm F p1 q1 _ (HSL14.out.gr hS.2.2.2) HMAY.out).mono ?_; rintro e x4 ⟨rfl, hx4⟩)
        | (go_at_call 12; have hS := ‹_ ∧ _ ∧ _ ∧ Gr w14 _›; refine (minto_any (HD14.out.more hS.2.2.2).ms (HD14.out.more hS.2.2.2).gd q1).mono ?_; rintro e x5 ⟨⟨y5, rfl, hy5⟩, hx5⟩; obtain ⟨al5, cl5, rfl, hil5⟩ := PlS.slot hy5)
        | (go_at_call 21; have hS := ‹_ ∧ _ ∧ _ ∧ Gr w14 _›; refine (rinto_any W H _ N cm F q1 _ (HSL14.out.gr hS.2.2.2) HMAY.out).mono ?_; rintro e x6 ⟨⟨y6, rfl, hy6⟩, hx6⟩; obtain ⟨al6, cl6, rfl, hil6⟩ := PlS.slot hy6; have hil56 := hil5.gr hx6)
        | (go_at_call 20; refine (edges_same _ _ _ _ _ _ _ hil56 hil6).mono ?_; rintro e x7 ⟨rfl, hd7⟩; have hx7 := hd7.gr))
      have hgx : Gr w14 x7 := (by (repeat (first | (with_reducible exact Gr.refl _) | (with_reducible assumption) | (with_reducible refine Gr.alloc ?_ _) | (with_reducible refine Gr.drew ?_) | (with_reducible refine Gr.set ?_ (by dsimp only; omega) _) | (with_reducible refine Gr.trans ?_ (by with_reducible assumption)))); first | done | fail)
      go_wp2_with fail
      go_ret
      exact ⟨rfl, (HD14.out.more hgx).gr⟩
end Go.Proofs.YtgbadbkipaccgaaGreat
