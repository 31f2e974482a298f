/- GridPlays' walk: it answers true at every input; nothing that was there is written. -/
import Derived.Test.YtmejpildmapfiaaGEdited
import Derived.Test.YtmejpildmapfiaaARef
namespace Go.Proofs.Ytmejpildmapfiaa
open Go.RowKit
set_option maxRecDepth 20000

theorem duo_alloc (w : World) (x y : Value) (t : TypeId) : (w.alloc (.cells #[x, y] t)).rowIs w.heap.size t 2 (fun j => if j = 0 then x else y) :=
  World.rowIs_alloc w #[x, y] t _ (fun i hi => by
    have hi : i < 2 := hi
    rcases (by omega : i = 0 ∨ i = 1) with rfl | rfl <;> rfl)
theorem duo_cells {w : World} {b : Nat} {t : TypeId} {x y : Value} (h : w.rowIs b t 2 (fun j => if j = 0 then x else y)) : w.cell? ⟨b, 0, none⟩ = some x ∧ w.cell? ⟨b, 1, none⟩ = some y ∧ w.frozen? ⟨b, 0, none⟩ = false ∧ w.frozen? ⟨b, 1, none⟩ = false :=
  ⟨h.cell (i := 0) (by omega), h.cell (i := 1) (by omega), h.frozen 0, h.frozen 1⟩
theorem duo_set {w : World} {b : Nat} {t : TypeId} {x y x' y' : Value} (h : w.rowIs b t 2 (fun j => if j = 0 then x else y)) : ((w.setCell ⟨b, 0, none⟩ x').setCell ⟨b, 1, none⟩ y').rowIs b t 2 (fun j => if j = 0 then x' else y') :=
  World.rowIs.congr ((h.set 0 x').set 1 y') (fun i hi => by rcases (by omega : i = 0 ∨ i = 1) with rfl | rfl <;> simp)
theorem Gr.set2 {a w : World} {b : Nat} {x y : Value} (h : Gr a w) (hb : a.heap.size ≤ b) : Gr a ((w.setCell ⟨b, 0, none⟩ x).setCell ⟨b, 1, none⟩ y) :=
  Gr.set (p := ⟨b, 1, none⟩) (Gr.set (p := ⟨b, 0, none⟩) h hb x) hb y
theorem Kp.three (w : World) (b : Nat) (x y z : Value) : Kp (fun k => k = b) w (((w.setCell ⟨b, 0, none⟩ x).setCell ⟨b, 1, none⟩ y).setCell ⟨b, 2, none⟩ z) :=
  Kp.set (p := ⟨b, 2, none⟩) (Kp.set (p := ⟨b, 1, none⟩) (Kp.one w b 0 x) (.inl rfl) y) (.inl rfl) z
theorem duo_drew {w : World} {b : Nat} {t : TypeId} {g : Nat → Value} (h : w.rowIs b t 2 g) : w.drew.rowIs b t 2 g := row_gr h (Gr.refl w).drew

set_option maxHeartbeats 12000000 in
theorem gridPlays_any (x y : Int) (a : Option Addr) (n cap : Nat) (f : Nat → Int) (e0 : Int) (al : Option Addr) (nl cl : Nat) (lc lk : Nat → Int) (raw : Bool) (w : World) (h : Sl w a n f) (hn : n ≤ maxLen) (hl : SlP w al nl lc lk) :
    Calls Try.prog 3 #[.int .i64 x, .int .i64 y, .slice a n cap, .int .i64 e0, .slice al nl cl, .bool raw] w fun e w' => e = .returned (.bool true) ∧ Gr w w' := by
  go_enter Try.func3, Try.ntmps3
  go_wp2_with fail
  refine (made_any x y a n cap f w h hn).mono ?_
  rintro e w1 ⟨⟨gm, cm, N, rfl, hN, hown⟩, hg1⟩
  have hm := gmade_may h.byte hN
  obtain ⟨N1, N2⟩ := gmade_n hN
  generalize withinF x 1 40 = W at *
  generalize withinF y 1 40 = H at *
  generalize madeF n f = F0 at *
  have hBm := tri_alloc w1 (.int .i64 W) (.int .i64 H) (.slice (some ⟨gm, 0, none⟩) N cm) 25
  have hgr : Gr w (w1.alloc (.cells #[.int .i64 W, .int .i64 H, .slice (some ⟨gm, 0, none⟩) N cm] 25)) := hg1.alloc _
  have hsl := hown.sl.2.2.2.2.gr ((Gr.refl w1).alloc (.cells #[.int .i64 W, .int .i64 H, .slice (some ⟨gm, 0, none⟩) N cm] 25))
  obtain ⟨q1, q2, q3, q4, -⟩ := hown.sl
  have hz0 := hBm.lt
  have hs0 := hgr.size
  have hsw1 := hg1.size
  have HN := hide hN
  have HM := hide hm
  clear hown hg1 h hn hN hm
  have eb := within_bd e0 0 4611686018427387904 (by omega)
  go_wp2_with fail
  refine (within_w e0 0 4611686018427387904 _ (by omega) (by omega) (by omega)).mono ?_
  rintro e w2 ⟨rfl, hw2⟩
  subst hw2
  generalize withinF e0 0 4611686018427387904 = E at *
  obtain ⟨c1, c2, c3, -, -, -⟩ := row_cells hBm
  go_wp2_with fail
  generalize (w1.alloc (.cells #[.int .i64 W, .int .i64 H, .slice (some ⟨gm, 0, none⟩) N cm] 25)) = u1 at *
  generalize w1.heap.size = B0 at *
  refine (gnew_yes W H _ N cm F0 E u1 hsl HM.out (by omega)).mono ?_
  rintro e w3 ⟨⟨p, c, v, cc, rfl, hgd, hp, hc, hv⟩, hg3⟩
  replace hgr := hgr.trans hg3
  replace hBm := row_gr hBm hg3
  replace hsl := hsl.gr hg3
  replace c1 := cell_gr c1 hg3
  replace c2 := cell_gr c2 hg3
  replace c3 := cell_gr c3 hg3
  have HG := hide hgd
  obtain ⟨hmb, -, -, -, b3, b4, b5⟩ := hgd.bd
  clear hg3 hgd
  go_wp2_with fail
  refine (rcount_any W H _).mono ?_
  rintro e w4 ⟨rfl, hd4⟩
  rw [← b5]
  have hg4 := Dr.gr hd4
  replace hgr := hgr.trans hg4
  replace hBm := row_gr hBm hg4
  replace hsl := hsl.gr hg4
  replace HG := hide (HG.out.gr hg4)
  clear hd4 hg4 c1 c2 c3 b5
  have HMB := hide hmb
  clear hmb
  have wE : IntKind.i64.wrap (E + 1) = E + 1 := wrapI (by omega)
  have hmk := fun u : World => make_vers (cntS W H) b4 u
  have hV := Row.made w4 (cntS W H)
  have hgm : Gr w4 (w4.alloc (.cells (madeCells #[.int .i64 0] (cntS W H)) 2)) := (Gr.refl w4).alloc _
  have eG := HG.out.box.lt
  have eG1 := HG.out.cost.lt
  have eG2 := HG.out.vers.lt
  have eBm := hBm.lt
  go_wp2_with fail
  generalize (w4.alloc (.cells (madeCells #[.int .i64 0] (cntS W H)) 2)) = um at *
  obtain ⟨V, hVe⟩ : ∃ V, w4.heap.size = V := ⟨_, rfl⟩
  rw [hVe] at hV ⊢
  go_loopw [19] (fun i z => ∃ j : Nat, j ≤ cntS W H ∧ i = .int .i64 j ∧ Row z V 2 .i64 (cntS W H) (fun s => if s < j then E + 1 else 0) ∧ Gr w4 z) (fun i _ => cntS W H - (intOf i).toNat)
  case atStart => exact ⟨0, Nat.zero_le _, rfl, hV.congr (fun i _ => by simp), hgm⟩
  case round =>
    clear hV hgm
    obtain ⟨j, hj, rfl, hV, hgz⟩ := hrel
    by_cases hlt : j < cntS W H
    · have hjI : (j : Int) < (cntS W H : Int) := by omega
      have d0 := hV.cell hlt
      have f0 := hV.frozen j
      have hV2 := hV.set j (E + 1)
      have hgz2 := hgz.set (p := ⟨V, j, none⟩) (by show _ ≤ V; omega) (.int .i64 (E + 1))
      clear hV
      go_wp2_with fail
      go_roundw
      case rel =>
        refine ⟨j + 1, by omega, by go_num, hV2.congr (fun i hi => ?_), hgz2⟩
        by_cases h1 : i = j
        · subst h1
          rw [if_pos rfl, if_pos (by omega)]
        · rw [if_neg h1]
          by_cases h2 : i < j
          · rw [if_pos h2, if_pos (by omega)]
          · rw [if_neg h2, if_neg (by omega)]
      case measure => simp [intOf]; omega
    · have hjI : ¬ (j : Int) < (cntS W H : Int) := by omega
      replace hV := hV.congr (g := fun _ => E + 1) (fun i hi => by rw [if_pos (by omega)])
      replace hgr := hgr.trans hgz
      replace hBm := row_gr hBm hgz
      replace hsl := hsl.gr hgz
      replace HG := hide (HG.out.gr hgz)
      have eV := hV.lt
      clear hgz
      go_wp2_with fail
      go_loopw [17, 20] (fun nw i z => ∃ (k : Nat) (F : Nat → Int) (ep : Int) (ver : Nat → Int) (gm cm : Nat), (k ≤ 40 ∧ k ≤ nl) ∧ nw = .int .i64 ep ∧ i = .int .i64 k ∧ Gd z p c v W H N cc F ep ver ∧ (0 ≤ ep ∧ ep ≤ 4611686018427387905 + k) ∧ z.rowIs B0 25 3 (tri (.int .i64 W) (.int .i64 H) (.slice (some ⟨gm, 0, none⟩) N cm)) ∧ Sl z (some ⟨gm, 0, none⟩) N F ∧ Row z V 2 .i64 (cntS W H) ver ∧ (gm ≠ p ∧ gm ≠ c ∧ gm ≠ v ∧ gm ≠ V ∧ gm ≠ B0) ∧ Gr w z) (fun _ i _ => 40 - (intOf i).toNat)
      case atStart => exact ⟨0, F0, E + 1, _, gm, cm, ⟨by omega, by omega⟩, rfl, rfl, HG.out, ⟨by omega, by omega⟩, hBm, hsl, hV, ⟨by omega, by omega, by omega, by omega, by omega⟩, hgr⟩
      case round =>
        clear hBm HG hgr hsl hV q1 q2 q3 q4
        obtain ⟨k, F, ep, ver, gm, cm, ⟨hk1, hk2⟩, rfl, rfl, hgd, he, hBm, hsl, hV, hap, hgr⟩ := hrel
        have HG := hide hgd
        clear hgd
        go_upto_region 14 with fail
        go_cut [66] from 59 to 129 (fun s u => s = .bool (decide (k < nl ∧ k < 40)) ∧ u = wr)
        case first =>
          by_cases h1 : k < nl
          · have t1 : (k : Int) < (nl : Int) := by omega
            by_cases h2 : k < 40
            · have t2 : (k : Int) < 40 := by omega
              go_wp2_with fail
              go_meet
              exact ⟨by simp [h1, h2], rfl⟩
            · have t2 : ¬ (k : Int) < 40 := by omega
              go_wp2_with fail
              go_meet
              exact ⟨by simp [h2], rfl⟩
          · have t1 : ¬ (k : Int) < (nl : Int) := by omega
            go_wp2_with fail
            go_meet
            exact ⟨by simp [h1], rfl⟩
        case rest =>
          obtain ⟨rfl, hwc⟩ := hcut
          subst hwc
          by_cases hdo : k < nl ∧ k < 40
          · rw [decide_eq_true hdo]
            obtain ⟨hkl, hk40⟩ := hdo
            generalize wc = wk at *
            obtain ⟨b, o, rfl, hB, hcell⟩ := hl.at (by omega)
            have l1 := cell_gr (hcell k hkl).1 hgr
            have l2 := cell_gr (hcell k hkl).2 hgr
            have t1 : (k : Int) < (nl : Int) := by omega
            generalize lc k = X at *
            generalize lk k = Y at *
            clear hcell
            obtain ⟨wb, hwb⟩ : ∃ wb, wb = wk.alloc (.cells #[.int .i64 X, .int .i64 Y] 33) := ⟨_, rfl⟩
            obtain ⟨BX, hBX⟩ : ∃ BX, BX = wk.heap.size := ⟨_, rfl⟩
            have hBx := duo_alloc wk (.int .i64 X) (.int .i64 Y) 33
            have hgb : Gr wk (wk.alloc (.cells #[.int .i64 X, .int .i64 Y] 33)) := (Gr.refl wk).alloc _
            rw [← hwb] at hBx hgb
            rw [← hBX] at hBx
            go_upto_if 74 with fail
            rw [← hwb, ← hBX]
            have zz : wk.heap.size ≤ BX := by omega
            clear hwb hBX
            obtain ⟨c1, c2, c3, -, -, -⟩ := row_cells (row_gr hBm hgb)
            go_cut [21] from 59 to 129 (fun s u => ∃ CX CY, s = .pointer (some ⟨BX, 0, none⟩) ∧ u.rowIs BX 33 2 (fun j => if j = 0 then .int .i64 CX else .int .i64 CY) ∧ Gr wk u)
            case first =>
              obtain ⟨x1, x2, f1, f2⟩ := duo_cells hBx
              cases raw
              · go_wp2_with fail
                go_region_with ((go_at_call 9; refine (within_st _ _ _ _ (by omega) (by omega) (by omega)).mono ?_; rintro e w8 ⟨rfl, hw8⟩; subst hw8))
                all_goals
                  go_wp2_with fail
                  go_meet
                all_goals
                  first | exact ⟨_, _, rfl, duo_set hBx, hgb.set2 zz⟩ | exact ⟨_, _, rfl, duo_set (row_gr hBx (by repeat (first | exact Gr.refl _ | assumption | exact Dr.gr (by assumption) | refine Gr.alloc ?_ _ | refine Gr.drewN ?_ _ | refine Gr.drew ?_ | refine Gr.trans ?_ (by assumption) | refine Gr.trans ?_ (Dr.gr (by assumption))))), (hgb.trans (by repeat (first | exact Gr.refl _ | assumption | exact Dr.gr (by assumption) | refine Gr.alloc ?_ _ | refine Gr.drewN ?_ _ | refine Gr.drew ?_ | refine Gr.trans ?_ (by assumption) | refine Gr.trans ?_ (Dr.gr (by assumption))))).set2 zz⟩ | exact ⟨_, _, rfl, row_gr (duo_set hBx) (by repeat (first | exact Gr.refl _ | assumption | exact Dr.gr (by assumption) | refine Gr.alloc ?_ _ | refine Gr.drewN ?_ _ | refine Gr.drew ?_ | refine Gr.trans ?_ (by assumption) | refine Gr.trans ?_ (Dr.gr (by assumption)))), (hgb.set2 zz).trans (by repeat (first | exact Gr.refl _ | assumption | exact Dr.gr (by assumption) | refine Gr.alloc ?_ _ | refine Gr.drewN ?_ _ | refine Gr.drew ?_ | refine Gr.trans ?_ (by assumption) | refine Gr.trans ?_ (Dr.gr (by assumption))))⟩
              · go_wp2_with fail
                go_meet
                exact ⟨_, _, rfl, hBx, hgb⟩
            case rest =>
              obtain ⟨CX, CY, rfl, hBx2, hgc⟩ := hcut
              have p1 := HG.out.box.lt
              have p2 := HG.out.cost.lt
              have p3 := HG.out.vers.lt
              clear c1 c2 c3 hBx hgb l1 l2
              obtain ⟨x1, x2, -, -⟩ := duo_cells hBx2
              obtain ⟨c1, c2, c3, -, -, -⟩ := row_cells hBm
              replace hgr := hgr.trans hgc
              replace hBm := row_gr hBm hgc
              replace hsl := hsl.gr hgc
              replace hV := hV.gr hgc
              replace HG := hide (HG.out.gr hgc)
              replace c1 := cell_gr c1 hgc
              replace c2 := cell_gr c2 hgc
              replace c3 := cell_gr c3 hgc
              have eBx := hBx2.lt
              clear hgc hBx2 t1
              cases hcell : isCellB W H CX
              · have hne : ecF N CX CY = 7 := by
                  unfold ecF
                  rw [if_neg]
                  intro hh
                  have : isCellB W H CX = true := by rw [isCellB_iff]; exact ⟨HMB.out, hh.1, by rw [← HN.out]; exact hh.2⟩
                  rw [this] at hcell
                  cases hcell
                go_wp2_with fail
                refine (risCell_any W H CX _).mono ?_
                rintro e w6 ⟨rfl, hd6⟩
                rw [hcell]
                have hg6 := Dr.gr hd6
                replace hgr := hgr.trans hg6
                replace hBm := row_gr hBm hg6
                replace hsl := hsl.gr hg6
                replace hV := hV.gr hg6
                replace HG := hide (HG.out.gr hg6)
                replace c1 := cell_gr c1 hg6
                replace c2 := cell_gr c2 hg6
                replace c3 := cell_gr c3 hg6
                replace x1 := cell_gr x1 hg6
                replace x2 := cell_gr x2 hg6
                clear hd6 hg6
                go_wp2_with fail
                refine (gedit_no HG.out CX CY (by rw [hne]; decide)).mono ?_
                rintro e w7 ⟨rfl, hg7⟩
                rw [hne]
                replace hgr := hgr.trans hg7
                replace hBm := row_gr hBm hg7
                replace hsl := hsl.gr hg7
                replace hV := hV.gr hg7
                replace HG := hide (HG.out.gr hg7)
                replace c1 := cell_gr c1 hg7
                replace c2 := cell_gr c2 hg7
                replace c3 := cell_gr c3 hg7
                replace x1 := cell_gr x1 hg7
                replace x2 := cell_gr x2 hg7
                clear hg7
                go_wp2_with fail
                refine (gepoch_any HG.out).mono ?_
                rintro e w9 ⟨rfl, hg9⟩
                replace hgr := hgr.trans hg9
                replace hBm := row_gr hBm hg9
                replace hsl := hsl.gr hg9
                replace hV := hV.gr hg9
                replace HG := hide (HG.out.gr hg9)
                replace c1 := cell_gr c1 hg9
                replace c2 := cell_gr c2 hg9
                replace c3 := cell_gr c3 hg9
                replace x1 := cell_gr x1 hg9
                replace x2 := cell_gr x2 hg9
                clear hg9
                go_wp2_with fail
                go_roundw
                case rel => exact ⟨k + 1, F, ep, ver, gm, cm, ⟨by omega, by omega⟩, rfl, by go_num, HG.out, ⟨by omega, by omega⟩, hBm, hsl, hV, hap, hgr⟩
                case measure => simp [intOf]; omega
              · obtain ⟨-, k1, k2⟩ := (isCellB_iff W H CX).1 hcell
                rw [← HN.out] at k2
                obtain ⟨K, rfl⟩ : ∃ K : Nat, CX = K := ⟨CX.toNat, by omega⟩
                go_wp2_with fail
                refine (risCell_any W H K _).mono ?_
                rintro e w6 ⟨rfl, hd6⟩
                rw [hcell]
                have hg6 := Dr.gr hd6
                replace hgr := hgr.trans hg6
                replace hBm := row_gr hBm hg6
                replace hsl := hsl.gr hg6
                replace hV := hV.gr hg6
                replace HG := hide (HG.out.gr hg6)
                replace c1 := cell_gr c1 hg6
                replace c2 := cell_gr c2 hg6
                replace c3 := cell_gr c3 hg6
                replace x1 := cell_gr x1 hg6
                replace x2 := cell_gr x2 hg6
                clear hd6 hg6
                by_cases hcy : 1 ≤ CY ∧ CY ≤ 255
                · go_wp2_with fail
                  refine (in_yes CY 1 255 _ hcy.1 hcy.2).mono ?_
                  rintro e w8 ⟨rfl, q8, hw8⟩
                  have hg8 : Gr w6 w8 := by rw [hw8]; exact (Gr.refl w6).drewN q8
                  replace hgr := hgr.trans hg8
                  replace hBm := row_gr hBm hg8
                  replace hsl := hsl.gr hg8
                  replace hV := hV.gr hg8
                  replace HG := hide (HG.out.gr hg8)
                  replace c1 := cell_gr c1 hg8
                  replace c2 := cell_gr c2 hg8
                  replace c3 := cell_gr c3 hg8
                  replace x1 := cell_gr x1 hg8
                  replace x2 := cell_gr x2 hg8
                  clear hw8 hg8
                  go_wp2_with fail
                  obtain ⟨s0, l, hs0', hl', es, el, egc⟩ := cell_at HMB.out HN.out (by omega : K < N)
                  clear el egc hl' l
                  refine (gedit_yes HG.out K CY (by omega) hcy (by omega)).mono ?_
                  rintro e w7 ⟨rfl, hgd, hk7⟩
                  rw [es] at hgd
                  rw [show ((s0 : Nat) : Int).toNat = s0 from rfl] at hgd
                  obtain ⟨a1, a2, a3, a4, a5⟩ := hap
                  replace HG := hide hgd
                  replace hgr := Of3.gr hk7 hgr (by omega) (by omega) (by omega)
                  replace hBm := hk7.row hBm (by unfold Of3; omega)
                  replace hsl := hk7.sl hsl (by unfold Of3; omega)
                  replace hV := hV.kp hk7 (by unfold Of3; omega)
                  replace c1 := hk7.cell c1 (by unfold Of3; omega)
                  replace c2 := hk7.cell c2 (by unfold Of3; omega)
                  replace c3 := hk7.cell c3 (by unfold Of3; omega)
                  replace x1 := hk7.cell x1 (by unfold Of3; omega)
                  replace x2 := hk7.cell x2 (by unfold Of3; omega)
                  clear hgd hk7
                  have wE2 : IntKind.i64.wrap (ep + 1) = ep + 1 := wrapI (by omega)
                  have wY : IntKind.u8.wrap CY = CY := by rw [IntKind.wrap_u8]; omega
                  go_wp2_with fail
                  refine (edited_any W H _ N cm F K CY w7 hsl (by omega) (by omega) (by omega)).mono ?_
                  rintro e w10 ⟨⟨g2, k2', rfl, s1, s2, s3, s4, hsl2⟩, hg10⟩
                  have eB7 := hBm.lt
                  have eV7 := hV.lt
                  replace hgr := hgr.trans hg10
                  replace hBm := row_gr hBm hg10
                  replace hV := hV.gr hg10
                  replace HG := hide (HG.out.gr hg10)
                  replace x1 := cell_gr x1 hg10
                  have hk3 := Kp.three w10 B0 (.int .i64 W) (.int .i64 H) (.slice (some ⟨g2, 0, none⟩) N k2')
                  replace hsl := hk3.sl hsl2 (by omega)
                  obtain ⟨c1, c2, c3, j1, j2, j3⟩ := row_cells hBm
                  clear hg10 hsl2
                  go_upto_region 29 with fail
                  clear c1 c2 c3 j1 j2 j3
                  replace hBm := row_set3 (u0 := .int .i64 W) (u1 := .int .i64 H) (u2 := .slice (some ⟨g2, 0, none⟩) N k2') hBm
                  replace hV := hV.kp hk3 (by omega)
                  replace HG := hide (HG.out.kp hk3 (by omega) (by omega) (by omega))
                  replace x1 := hk3.cell x1 (by omega)
                  replace hgr := hk3.gr hgr (fun i hi => by omega)
                  clear hk3
                  generalize (((w10.setCell ⟨B0, 0, none⟩ (.int .i64 W)).setCell ⟨B0, 1, none⟩ (.int .i64 H)).setCell ⟨B0, 2, none⟩ (.slice (some ⟨g2, 0, none⟩) N k2')) = w11 at *
                  obtain ⟨c1, c2, c3, -, -, -⟩ := row_cells hBm
                  have hsI : (s0 : Int) < (cntS W H : Int) := by omega
                  go_wp2_with fail
                  refine (rsector_yes W H K w11 hcell).mono ?_
                  rintro e w12 ⟨rfl, hd12⟩
                  rw [es]
                  have hg12 := Dr.gr hd12
                  replace hgr := hgr.trans hg12
                  replace hBm := row_gr hBm hg12
                  replace hV := hV.gr hg12
                  replace hsl := hsl.gr hg12
                  replace HG := hide (HG.out.gr hg12)
                  clear hg12 hd12 es c1 c2 c3 x1 x2
                  have d0 := hV.cell hs0'
                  have f0 := hV.frozen s0
                  have hk1' := Kp.one w12 V s0 (.int .i64 (ep + 1))
                  replace hV := hV.set s0 (ep + 1)
                  replace HG := hide (HG.out.kp hk1' (by omega) (by omega) (by omega))
                  replace hBm := hk1'.row hBm (by omega)
                  replace hsl := hk1'.sl hsl (by omega)
                  replace hgr := hk1'.gr hgr (fun i hi => by omega)
                  clear hk1'
                  have HV := hide hV
                  clear hV
                  go_wp2_with fail
                  refine (gepoch_any HG.out).mono ?_
                  rintro e w9 ⟨rfl, hg9⟩
                  replace hgr := hgr.trans hg9
                  replace hBm := row_gr hBm hg9
                  replace HV := hide (HV.out.gr hg9)
                  replace hsl := hsl.gr hg9
                  replace HG := hide (HG.out.gr hg9)
                  clear hg9
                  go_wp2_with fail
                  go_roundw
                  case rel => exact ⟨k + 1, _, _, _, g2, k2', ⟨by omega, by omega⟩, rfl, by go_num, HG.out, ⟨by omega, by omega⟩, hBm, hsl, HV.out, ⟨by omega, by omega, by omega, by omega, by omega⟩, hgr⟩
                  case measure => simp [intOf]; omega
                · have hne : ecF N K CY = 8 := by
                    unfold ecF
                    rw [if_pos ⟨k1, k2⟩, if_neg hcy]
                  have hcy2 : CY < 1 ∨ 255 < CY := by omega
                  go_wp2_with fail
                  refine (in_no CY 1 255 _ hcy2).mono ?_
                  rintro e w8 ⟨rfl, q8, hw8⟩
                  have hg8 : Gr w6 w8 := by rw [hw8]; exact (Gr.refl w6).drewN q8
                  replace hgr := hgr.trans hg8
                  replace hBm := row_gr hBm hg8
                  replace hsl := hsl.gr hg8
                  replace hV := hV.gr hg8
                  replace HG := hide (HG.out.gr hg8)
                  replace c1 := cell_gr c1 hg8
                  replace c2 := cell_gr c2 hg8
                  replace c3 := cell_gr c3 hg8
                  replace x1 := cell_gr x1 hg8
                  replace x2 := cell_gr x2 hg8
                  clear hw8 hg8
                  go_wp2_with fail
                  refine (gedit_no HG.out K CY (by rw [hne]; decide)).mono ?_
                  rintro e w7 ⟨rfl, hg7⟩
                  rw [hne]
                  replace hgr := hgr.trans hg7
                  replace hBm := row_gr hBm hg7
                  replace hsl := hsl.gr hg7
                  replace hV := hV.gr hg7
                  replace HG := hide (HG.out.gr hg7)
                  replace c1 := cell_gr c1 hg7
                  replace c2 := cell_gr c2 hg7
                  replace c3 := cell_gr c3 hg7
                  replace x1 := cell_gr x1 hg7
                  replace x2 := cell_gr x2 hg7
                  clear hg7
                  go_wp2_with fail
                  refine (gepoch_any HG.out).mono ?_
                  rintro e w9 ⟨rfl, hg9⟩
                  replace hgr := hgr.trans hg9
                  replace hBm := row_gr hBm hg9
                  replace hsl := hsl.gr hg9
                  replace hV := hV.gr hg9
                  replace HG := hide (HG.out.gr hg9)
                  replace c1 := cell_gr c1 hg9
                  replace c2 := cell_gr c2 hg9
                  replace c3 := cell_gr c3 hg9
                  replace x1 := cell_gr x1 hg9
                  replace x2 := cell_gr x2 hg9
                  clear hg9
                  go_wp2_with fail
                  go_roundw
                  case rel => exact ⟨k + 1, F, ep, ver, gm, cm, ⟨by omega, by omega⟩, rfl, by go_num, HG.out, ⟨by omega, by omega⟩, hBm, hsl, hV, hap, hgr⟩
                  case measure => simp [intOf]; omega
          · rw [decide_eq_false hdo]
            generalize wc = wk at *
            have hmm := HG.out.may
            have hsm : sameTB W H N F W H N F = true := by simp [sameTB, sameB]
            go_wp2_with fail
            go_loopw [23] (fun i z => ∃ j : Nat, j ≤ cntS W H ∧ i = .int .i64 j ∧ Gr wk z) (fun i _ => cntS W H - (intOf i).toNat)
            case atStart => exact ⟨0, Nat.zero_le _, rfl, Gr.refl _⟩
            case round =>
              obtain ⟨j, hj, rfl, hgz⟩ := hrel
              replace hgr := hgr.trans hgz
              replace hBm := row_gr hBm hgz
              replace hV := hV.gr hgz
              replace hsl := hsl.gr hgz
              replace HG := hide (HG.out.gr hgz)
              by_cases hlt : j < cntS W H
              · have hjI : (j : Int) < (cntS W H : Int) := by omega
                have hst : sameTB (twF W j) (thF W H j) (tnF W H j) (tileF W j F) (twF W j) (thF W H j) (tnF W H j) (tileF W j F) = true := by simp [sameTB, sameB]
                have hgat : gatF (cntS W H) ver j = ver j := by unfold gatF; rw [if_pos ⟨by omega, by omega⟩]; rfl
                go_wp2_with fail
                refine (gtile_yes HG.out j hlt).mono ?_
                rintro e w5 ⟨⟨gt, ct, rfl, hown⟩, hg5⟩
                have HTO := hide (fun u hu => rtileOf_any W H (some ⟨gm, 0, none⟩) N cm F j u hu hmm hlt)
                generalize twF W j = TW at *
                generalize thF W H j = TH at *
                generalize tnF W H j = TN at *
                generalize tileF W j F = TF at *
                have hgb5 : Gr w5 (w5.alloc (.cells #[.int .i64 TW, .int .i64 TH, .slice (some ⟨gt, 0, none⟩) TN ct] 37)) := (Gr.refl w5).alloc _
                have hBt := tri_alloc w5 (.int .i64 TW) (.int .i64 TH) (.slice (some ⟨gt, 0, none⟩) TN ct) 37
                have hst5 := hown.sl.2.2.2.2.gr hgb5
                replace hg5 := hg5.trans hgb5
                have hgz5 := hgz.trans hg5
                obtain ⟨c1, c2, c3, -, -, -⟩ := row_cells (row_gr hBm hg5)
                have d0 := (hV.gr hg5).cell hlt
                have HSL := hide (hsl.gr hg5)
                have HGW := hide (HG.out.gr hg5)
                have HST5 := hide hst5
                clear hown hsl hBm hV HG hgr hg5 hgb5 hst5
                go_wp2_with fail
                generalize (w5.alloc (.cells #[.int .i64 TW, .int .i64 TH, .slice (some ⟨gt, 0, none⟩) TN ct] 37)) = w6 at *
                generalize w5.heap.size = BT at *
                obtain ⟨y1, y2, y3, -, -, -⟩ := row_cells hBt
                clear hBt
                go_region_held3 (fun z => (z.cell? ⟨B0, 0, none⟩ = some (.int .i64 W) ∧ z.cell? ⟨B0, 1, none⟩ = some (.int .i64 H) ∧ z.cell? ⟨B0, 2, none⟩ = some (.slice (some ⟨gm, 0, none⟩) N cm)) ∧ (z.cell? ⟨BT, 0, none⟩ = some (.int .i64 TW) ∧ z.cell? ⟨BT, 1, none⟩ = some (.int .i64 TH) ∧ z.cell? ⟨BT, 2, none⟩ = some (.slice (some ⟨gt, 0, none⟩) TN ct)) ∧ z.cell? ⟨V, j, none⟩ = some (.int .i64 (ver j)) ∧ Gr w6 z) (first | exact ⟨⟨c1, c2, c3⟩, ⟨y1, y2, y3⟩, d0, (Gr.refl _).drew⟩ | exact ⟨⟨cell_gr hS.1.1 hg9, cell_gr hS.1.2.1 hg9, cell_gr hS.1.2.2 hg9⟩, ⟨cell_gr hS.2.1.1 hg9, cell_gr hS.2.1.2.1 hg9, cell_gr hS.2.1.2.2 hg9⟩, cell_gr hS.2.2.1 hg9, hS.2.2.2.trans hg9⟩) (first | (go_at_call 20; have hS := ‹(_ ∧ _ ∧ _) ∧ (_ ∧ _ ∧ _) ∧ _ ∧ Gr _ _›; refine (HTO.out _ (HSL.out.gr hS.2.2.2)).mono ?_; rintro e w9 ⟨⟨g9, c9, rfl, ho9⟩, hg9⟩; have hsl9 := ho9.sl.2.2.2.2; clear ho9) | (go_at_call 19; have hS := ‹(_ ∧ _ ∧ _) ∧ (_ ∧ _ ∧ _) ∧ _ ∧ Gr _ _›; refine (rsameT_any _ _ _ _ _ _ _ _ _ _ TF TF _ (HST5.out.gr hS.2.2.2) hsl9).mono ?_; rintro e w9 ⟨rfl, hg9⟩; rw [hst]) | (go_at_call 21; have hS := ‹(_ ∧ _ ∧ _) ∧ (_ ∧ _ ∧ _) ∧ _ ∧ Gr _ _›; refine (gversion_any (HGW.out.gr hS.2.2.2) _).mono ?_; rintro e w9 ⟨rfl, hg9⟩; rw [hgat]))
                have hGe := (‹(_ ∧ _ ∧ _) ∧ (_ ∧ _ ∧ _) ∧ _ ∧ Gr w6 _›).2.2.2
                go_wp2_with fail
                go_roundw
                case rel => exact ⟨j + 1, by omega, by go_num, hgz5.trans hGe⟩
                case measure => simp [intOf]; omega
              · have hjI : ¬ (j : Int) < (cntS W H : Int) := by omega
                have hv1 : gatF (cntS W H) ver (cntS W H : Int) = 0 := by unfold gatF; rw [if_neg (by omega)]
                have hv2 : gatF (cntS W H) ver (-1) = 0 := by unfold gatF; rw [if_neg (by omega)]
                clear hgz
                go_wp2_with fail
                refine (gsize_any HG.out).mono ?_
                rintro e w5 ⟨rfl, hg5⟩
                replace hgr := hgr.trans hg5
                replace hBm := row_gr hBm hg5
                replace hsl := hsl.gr hg5
                replace HG := hide (HG.out.gr hg5)
                clear hg5
                go_wp2_with fail
                refine (gtile_no HG.out _ (.inr (Int.le_refl _))).mono ?_
                rintro e w6 ⟨rfl, hg6⟩
                have hgb6 : Gr w6 (w6.alloc (.cells #[.int .i64 0, .int .i64 0, .slice none 0 0] 37)) := (Gr.refl w6).alloc _
                have y3 := (row_cells (tri_alloc w6 (.int .i64 0) (.int .i64 0) (.slice none 0 0) 37)).2.2.1
                replace hg6 := hg6.trans hgb6
                replace hgr := hgr.trans hg6
                obtain ⟨c1, c2, c3, -, -, -⟩ := row_cells (row_gr hBm hg6)
                have HSL := hide (hsl.gr hg6)
                have HGW := hide (HG.out.gr hg6)
                clear hsl hBm hV HG hg6 hgb6
                go_wp2_with fail
                generalize (w6.alloc (.cells #[.int .i64 0, .int .i64 0, .slice none 0 0] 37)) = w7 at *
                generalize w6.heap.size = BT at *
                go_region_held3 (fun z => (z.cell? ⟨B0, 0, none⟩ = some (.int .i64 W) ∧ z.cell? ⟨B0, 1, none⟩ = some (.int .i64 H) ∧ z.cell? ⟨B0, 2, none⟩ = some (.slice (some ⟨gm, 0, none⟩) N cm)) ∧ z.cell? ⟨BT, 2, none⟩ = some (.slice none 0 0) ∧ Gr w7 z) (first | exact ⟨⟨c1, c2, c3⟩, y3, (Gr.refl _).drew⟩ | exact ⟨⟨cell_gr hS.1.1 hg9, cell_gr hS.1.2.1 hg9, cell_gr hS.1.2.2 hg9⟩, cell_gr hS.2.1 hg9, hS.2.2.trans hg9⟩) (first | (go_at_call 23; have hS := ‹(_ ∧ _ ∧ _) ∧ _ ∧ Gr _ _›; refine (told5_any _).mono ?_; rintro e w9 ⟨rfl, hg9⟩) | (go_at_call 25; have hS := ‹(_ ∧ _ ∧ _) ∧ _ ∧ Gr _ _›; refine (gmap_any (HGW.out.gr hS.2.2)).mono ?_; rintro e w9 ⟨⟨g9, c9, rfl, ho9⟩, hg9⟩; have hsl9 := ho9.sl.2.2.2.2; clear ho9) | (go_at_call 24; have hS := ‹(_ ∧ _ ∧ _) ∧ _ ∧ Gr _ _›; refine (rsameM_any _ _ _ _ _ _ _ _ _ _ F F _ hsl9 (HSL.out.gr hS.2.2)).mono ?_; rintro e w9 ⟨rfl, hg9⟩; rw [hsm]) | (go_at_call 21; have hS := ‹(_ ∧ _ ∧ _) ∧ _ ∧ Gr _ _›; refine (gversion_any (HGW.out.gr hS.2.2) _).mono ?_; rintro e w9 ⟨rfl, hg9⟩; (first | rw [hv1] | rw [hv2])))
                go_wp2_with fail
                go_ret
                exact ⟨ret_bool (by simp), hgr.trans (‹(_ ∧ _ ∧ _) ∧ _ ∧ Gr w7 _›).2.2⟩

end Go.Proofs.Ytmejpildmapfiaa
