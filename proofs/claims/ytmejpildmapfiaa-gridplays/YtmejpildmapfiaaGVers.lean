/- GridVersions' walk: it answers true at every input; nothing that was there is written. -/
import Derived.Test.YtmejpildmapfiaaGGet2
import Derived.Test.YtmejpildmapfiaaTRow2
namespace Go.Proofs.Ytmejpildmapfiaa
open Go.RowKit
set_option maxRecDepth 20000

/-- the slice at a, of n pairs of integers, reads as f, g -/
def SlP (w : World) (a : Option Addr) (n : Nat) (f g : Nat → Int) : Prop :=
  n = 0 ∨ ∃ b o, a = some ⟨b, o, none⟩ ∧ b < w.heap.size ∧ ∀ i, i < n → w.cell? ⟨b, o + i * 2, none⟩ = some (.int .i64 (f i)) ∧ w.cell? ⟨b, o + i * 2 + 1, none⟩ = some (.int .i64 (g i))
theorem SlP.at {w : World} {a : Option Addr} {n : Nat} {f g : Nat → Int} (h : SlP w a n f g) (hn : 0 < n) : ∃ b o, a = some ⟨b, o, none⟩ ∧ b < w.heap.size ∧ ∀ i, i < n → w.cell? ⟨b, o + i * 2, none⟩ = some (.int .i64 (f i)) ∧ w.cell? ⟨b, o + i * 2 + 1, none⟩ = some (.int .i64 (g i)) := by
  rcases h with h | h
  · omega
  · exact h
theorem SlP.gr {w w' : World} {a : Option Addr} {n : Nat} {f g : Nat → Int} (h : SlP w a n f g) (k : Gr w w') : SlP w' a n f g := by
  rcases h with h | ⟨b, o, rfl, hb, hc⟩
  · exact .inl h
  · exact .inr ⟨b, o, rfl, Nat.lt_of_lt_of_le hb k.size, fun i hi => ⟨cell_gr (hc i hi).1 k, cell_gr (hc i hi).2 k⟩⟩
theorem SlP.of {w : World} {a : Option Addr} {n c : Nat} {z : Nat → Nat → Int} (h : IsSt 2 w a n c z) : SlP w a n (fun i => z i 0) (fun i => z i 1) := by
  rcases h.has (by omega) with h | ⟨b, o, rfl, hb, hc⟩
  · exact .inl h
  · exact .inr ⟨b, o, rfl, hb, fun i hi => ⟨(hc i hi 0 (by omega)).1, (hc i hi 1 (by omega)).1⟩⟩
theorem keepV {u0 u u' : World} {b o B : Nat} {v0 v1 v2 : Value} (h : u.cell? ⟨b, o, none⟩ = some v0 ∧ u.cell? ⟨b, o + 1, none⟩ = some v1 ∧ u.cell? ⟨B, 2, none⟩ = some v2 ∧ Gr u0 u) (g : Gr u u') : u'.cell? ⟨b, o, none⟩ = some v0 ∧ u'.cell? ⟨b, o + 1, none⟩ = some v1 ∧ u'.cell? ⟨B, 2, none⟩ = some v2 ∧ Gr u0 u' :=
  ⟨cell_gr h.1 g, cell_gr h.2.1 g, cell_gr h.2.2.1 g, h.2.2.2.trans g⟩

set_option maxHeartbeats 4000000 in
theorem gridVersions_any (x y : Int) (a : Option Addr) (n cap : Nat) (f : Nat → Int) (al : Option Addr) (nl cl : Nat) (lc lk : Nat → Int) (w : World) (h : Sl w a n f) (hn : n ≤ maxLen) (hl : SlP w al nl lc lk) :
    Calls Try.prog 6 #[.int .i64 x, .int .i64 y, .slice a n cap, .slice al nl cl] w fun e w' => e = .returned (.bool true) ∧ Gr w w' := by
  go_enter Try.func6, Try.ntmps6
  go_wp2_with fail
  refine (made_any x y a n cap f w h hn).mono ?_
  rintro e w1 ⟨⟨gm, cm, N, rfl, hN, hown⟩, hg1⟩
  have hm := gmade_may h.byte hN
  obtain ⟨N1, N2⟩ := gmade_n hN
  generalize withinF x 1 40 = W at *
  generalize withinF y 1 40 = H at *
  generalize madeF n f = F0 at *
  have hBm := tri_alloc w1 (.int .i64 W) (.int .i64 H) (.slice (some ⟨gm, 0, none⟩) N cm) 25
  have hgr : Gr w (w1.alloc (.cells #[.int .i64 W, .int .i64 H, .slice (some ⟨gm, 0, none⟩) N cm] 25)) := hg1.alloc _
  have hsl := hown.sl.2.2.2.2.gr ((Gr.refl w1).alloc (.cells #[.int .i64 W, .int .i64 H, .slice (some ⟨gm, 0, none⟩) N cm] 25))
  obtain ⟨q1, q2, q3, q4, -⟩ := hown.sl
  have hz0 := hBm.lt
  have hs0 := hgr.size
  have HN := hide hN
  have HM := hide hm
  clear hown hg1 h hn hN hm
  go_wp2_with fail
  generalize (w1.alloc (.cells #[.int .i64 W, .int .i64 H, .slice (some ⟨gm, 0, none⟩) N cm] 25)) = u1 at *
  generalize w1.heap.size = B0 at *
  refine (gnew_yes W H _ N cm F0 7 u1 hsl HM.out (by omega)).mono ?_
  rintro e w3 ⟨⟨p, c, v, cc, rfl, hgd, hp, hc, hv⟩, hg3⟩
  replace hgr := hgr.trans hg3
  replace hBm := row_gr hBm hg3
  obtain ⟨c1, c2, c3, -, -, -⟩ := row_cells hBm
  have HG := hide hgd
  obtain ⟨hmb, -, -, -, b3, b4, b5⟩ := hgd.bd
  clear hsl hg3 hgd
  go_wp2_with fail
  refine (rcount_any W H _).mono ?_
  rintro e w4 ⟨rfl, hd4⟩
  rw [← b5]
  have hg4 := Dr.gr hd4
  replace hgr := hgr.trans hg4
  replace hBm := row_gr hBm hg4
  replace HG := hide (HG.out.gr hg4)
  clear hd4 hg4 c1 c2 c3 b5
  have HMB := hide hmb
  clear hmb
  go_wp2_with fail
  go_loopw [12] (fun i z => ∃ (k : Nat) (F : Nat → Int) (ep : Int) (ver : Nat → Int), (k ≤ 30 ∧ k ≤ nl) ∧ i = .int .i64 k ∧ Gd z p c v W H N cc F ep ver ∧ (8 ≤ ep ∧ ep ≤ 8 + k) ∧ z.rowIs B0 25 3 (tri (.int .i64 W) (.int .i64 H) (.slice (some ⟨gm, 0, none⟩) N cm)) ∧ Gr w z) (fun i _ => 30 - (intOf i).toNat)
  case atStart => exact ⟨0, F0, 8, _, ⟨by omega, by omega⟩, rfl, HG.out, ⟨by omega, by omega⟩, hBm, hgr⟩
  case round =>
    clear hBm HG hgr
    obtain ⟨k, F, ep, ver, ⟨hk1, hk2⟩, rfl, hgd, he, hBm, hgr⟩ := hrel
    by_cases hdone : ¬ k < nl
    · have t1 : ¬ (k : Int) < (nl : Int) := by omega
      go_wp2_with fail
      refine (told5_any _).mono ?_
      rintro e w9 ⟨rfl, hg9⟩
      go_wp2_with fail
      go_ret
      exact ⟨rfl, hgr.trans hg9⟩
    have t1 : (k : Int) < (nl : Int) := by omega
    by_cases hdone2 : ¬ k < 30
    · have t2 : ¬ (k : Int) < 30 := by omega
      go_wp2_with fail
      refine (told5_any _).mono ?_
      rintro e w9 ⟨rfl, hg9⟩
      go_wp2_with fail
      go_ret
      exact ⟨rfl, hgr.trans hg9⟩
    have t2 : (k : Int) < 30 := by omega
    have hkl : k < nl := by omega
    have hk30 : k < 30 := by omega
    clear hdone hdone2
    obtain ⟨b, o, rfl, hB, hcell⟩ := hl.at (by omega)
    have l1 := cell_gr (hcell k hkl).1 hgr
    have l2 := cell_gr (hcell k hkl).2 hgr
    generalize lc k = X at *
    generalize lk k = Y at *
    obtain ⟨c1, c2, c3, -, -, -⟩ := row_cells hBm
    have HG := hide hgd
    clear hgd hcell
    go_wp2_with fail
    go_cut [13] from 34 to 160 (fun s u => ∃ BX, s = .pointer (some ⟨BX, 0, none⟩) ∧ u.cell? ⟨BX, 0, none⟩ = some (.int .i64 (withinF X (-1) N)) ∧ u.cell? ⟨BX, 1, none⟩ = some (.int .i64 (withinF Y 0 256)) ∧ wr.heap.size ≤ BX ∧ Gr wr u)
    case first =>
      go_region_held3 (fun z => z.cell? ⟨b, o + k * 2, none⟩ = some (.int .i64 X) ∧ z.cell? ⟨b, o + k * 2 + 1, none⟩ = some (.int .i64 Y) ∧ z.cell? ⟨B0, 2, none⟩ = some (.slice (some ⟨gm, 0, none⟩) N cm) ∧ Gr wr z) ((refine keepV ⟨l1, l2, c3, Gr.refl _⟩ ?_; exact (by repeat (first | (with_reducible exact Gr.refl _) | (with_reducible assumption) | (with_reducible refine Gr.alloc ?_ _) | (with_reducible refine Gr.drew ?_) | (with_reducible refine Gr.set ?_ (by dsimp only; omega) _) | (with_reducible refine Gr.trans ?_ (by with_reducible assumption)))))) ((go_at_call 9; refine (within_st _ _ _ _ (by omega) (by omega) (by omega)).mono ?_; rintro e w8 ⟨rfl, hw8⟩; subst hw8))
      all_goals
        go_wp2_with fail
        go_meet
      all_goals
        have hGe := (‹_ ∧ _ ∧ _ ∧ Gr wr _›).2.2.2
      all_goals
        refine ⟨_, rfl, ?_, ?_, ?_, hGe⟩
      all_goals
        first
          | (go_simp; done)
          | (go_simp; refine World.cell?_setCell_same' _ _ _ ?_; go_simp; done)
          | exact Nat.le_refl _
          | (simp only [World.size_alloc]; omega)
    case rest =>
      obtain ⟨BX, rfl, x1, x2, hBX, hg5⟩ := hcut
      replace hgr := hgr.trans hg5
      replace hBm := row_gr hBm hg5
      have eBm := hBm.lt
      have eG := HG.out.box.lt
      have eG1 := HG.out.cost.lt
      have eG2 := HG.out.vers.lt
      replace HG := hide (HG.out.gr hg5)
      have xb := within_bd X (-1) N (by omega)
      have yb := within_bd Y 0 256 (by omega)
      generalize withinF X (-1) N = CX at *
      generalize withinF Y 0 256 = CY at *
      have sz5 := hg5.size
      clear l1 l2 c1 c2 c3 hg5
      have hmk := fun u : World => make_vers (cntS W H) b4 u
      have hV := Row.made wc (cntS W H)
      have hgm : Gr wc (wc.alloc (.cells (madeCells #[.int .i64 0] (cntS W H)) 2)) := (Gr.refl wc).alloc _
      go_wp2_with fail
      generalize (wc.alloc (.cells (madeCells #[.int .i64 0] (cntS W H)) 2)) = um at *
      obtain ⟨V, hVe⟩ : ∃ V, wc.heap.size = V := ⟨_, rfl⟩
      rw [hVe] at hV ⊢
      go_loopw [15] (fun i z => ∃ j : Nat, j ≤ cntS W H ∧ i = .int .i64 j ∧ Row z V 2 .i64 (cntS W H) (fun s => if s < j then ver s else 0) ∧ Gr wc z) (fun i _ => cntS W H - (intOf i).toNat)
      case atStart => exact ⟨0, Nat.zero_le _, rfl, hV.congr (fun i _ => by simp), hgm⟩
      case round =>
        clear hV hgm
        obtain ⟨j, hj, rfl, hV, hgz⟩ := hrel
        by_cases hlt : j < cntS W H
        · have hjI : (j : Int) < (cntS W H : Int) := by omega
          have hgat : gatF (cntS W H) ver j = ver j := by unfold gatF; rw [if_pos ⟨by omega, by omega⟩]; rfl
          go_wp2_with fail
          refine (gversion_dr (HG.out.gr hgz) j).mono ?_
          rintro e w6 ⟨rfl, hd6⟩
          rw [hgat]
          have hg6 := Dr.gr hd6
          replace hV := hV.gr hg6
          replace hgz := hgz.trans hg6
          have d0 := hV.cell hlt
          have f0 := hV.frozen j
          have hV2 := hV.set j (ver j)
          have hgz2 := hgz.set (p := ⟨V, j, none⟩) (by show _ ≤ V; omega) (.int .i64 (ver j))
          clear hd6 hg6 hV
          go_wp2_with fail
          go_roundw
          case rel =>
            refine ⟨j + 1, by omega, by go_num, hV2.congr (fun i hi => ?_), hgz2⟩
            by_cases h1 : i = j
            · subst h1
              rw [if_pos rfl, if_pos (by omega)]
            · rw [if_neg h1]
              by_cases h2 : i < j
              · rw [if_pos h2, if_pos (by omega)]
              · rw [if_neg h2, if_neg (by omega)]
          case measure => simp [intOf]; omega
        · have hjI : ¬ (j : Int) < (cntS W H : Int) := by omega
          replace hV := hV.congr (g := ver) (fun i hi => by rw [if_pos (by omega)])
          replace hgr := hgr.trans hgz
          replace hBm := row_gr hBm hgz
          replace HG := hide (HG.out.gr hgz)
          replace x1 := cell_gr x1 hgz
          replace x2 := cell_gr x2 hgz
          have HEP := hide (fun (u : World) (hu : Dr wr u) => gepoch_dr (HG.out.dr hu))
          have HCO := hide (fun (u : World) (hu : Dr wr u) => gcost_dr (HG.out.dr hu) CX)
          have HV := hide hV
          clear hV hgz
          go_wp2_with fail
          go_quiet (first | (go_at_call 17; refine Dr.quiet (HEP.out _ ⟨_, rfl⟩)) | (go_at_call 28; refine Dr.quiet (HCO.out _ ⟨_, rfl⟩)))
          go_wp2_with fail
          have hgq : Gr wr (wr.drewN nq) := (Gr.refl wr).drewN nq
          replace hgr := hgr.trans hgq
          replace hBm := row_gr hBm hgq
          replace HG := hide (HG.out.gr hgq)
          replace x1 := cell_gr x1 hgq
          replace x2 := cell_gr x2 hgq
          replace HV := hide (HV.out.gr hgq)
          clear hgq HEP HCO
          generalize (wr.drewN nq) = wq at *
          have eV := HV.out.lt
          by_cases hok : ecF N CX CY = 0
          · obtain ⟨hcx, hcy⟩ : (0 ≤ CX ∧ CX < N) ∧ (1 ≤ CY ∧ CY ≤ 255) := by
              unfold ecF at hok
              by_cases h1 : 0 ≤ CX ∧ CX < N
              · rw [if_pos h1] at hok
                by_cases h2 : 1 ≤ CY ∧ CY ≤ 255
                · exact ⟨h1, h2⟩
                · rw [if_neg h2] at hok; omega
              · rw [if_neg h1] at hok; omega
            obtain ⟨K, rfl⟩ : ∃ K : Nat, CX = K := ⟨CX.toNat, by omega⟩
            have hcI : isCellB W H K = true := by rw [isCellB_iff]; exact ⟨HMB.out, by omega, by rw [← HN.out]; omega⟩
            obtain ⟨s0, l, hs0, hl, es, el, egc⟩ := cell_at HMB.out HN.out (by omega : K < N)
            clear el egc hl l hok
            refine (gedit_yes HG.out K CY (by omega) hcy (by omega)).mono ?_
            rintro e w7 ⟨rfl, hgd, hk7⟩
            rw [es] at hgd
            rw [show ((s0 : Nat) : Int).toNat = s0 from rfl] at hgd
            replace HG := hide hgd
            replace hgr := Of3.gr hk7 hgr (by omega) (by omega) (by omega)
            replace hBm := hk7.row hBm (by unfold Of3; omega)
            replace x1 := hk7.cell x1 (by unfold Of3; omega)
            replace x2 := hk7.cell x2 (by unfold Of3; omega)
            replace HV := hide (HV.out.kp hk7 (by unfold Of3; omega))
            have HSC := hide (fun u => rsector_yes W H K u hcI)
            have HES := hide es
            have hcost : gatF N (putF F K CY) K = CY := by unfold gatF; rw [if_pos hcx]; simp [putF]
            have HEP := hide (fun (u : World) (hu : Dr w7 u) => gepoch_dr (HG.out.dr hu))
            have HCO := hide (fun (u : World) (hu : Dr w7 u) => gcost_dr (HG.out.dr hu) K)
            rw [hcost] at HCO
            have wE : IntKind.i64.wrap (ep + 1) = ep + 1 := wrapI (by omega)
            clear hgd hk7 es hcI hcost
            go_wp2_with fail
            go_quiet (first | (go_at_call 17; refine Dr.quiet (HEP.out _ ⟨_, rfl⟩)) | (go_at_call 28; refine Dr.quiet (HCO.out _ ⟨_, rfl⟩)))
            go_wp2_with fail
            have hgq : Gr w7 (w7.drewN nq) := (Gr.refl w7).drewN nq
            replace hgr := hgr.trans hgq
            replace hBm := row_gr hBm hgq
            replace HG := hide (HG.out.gr hgq)
            replace x1 := cell_gr x1 hgq
            replace x2 := cell_gr x2 hgq
            replace HV := hide (HV.out.gr hgq)
            clear hgq HEP HCO
            generalize (w7.drewN nq) = w8 at *
            go_loopw [19] (fun i z => ∃ j : Nat, j ≤ cntS W H ∧ i = .int .i64 j ∧ Gr w8 z) (fun i _ => cntS W H - (intOf i).toNat)
            case atStart => exact ⟨0, Nat.zero_le _, rfl, Gr.refl _⟩
            case round =>
              obtain ⟨j, hj, rfl, hgz⟩ := hrel
              by_cases hlt : j < cntS W H
              · have hjI : (j : Int) < (cntS W H : Int) := by omega
                have d0 := (HV.out.gr hgz).cell hlt
                obtain ⟨c1, c2, c3, -, -, -⟩ := row_cells (row_gr hBm hgz)
                replace x1 := cell_gr x1 hgz
                go_wp2_with fail
                refine (HSC.out _).mono ?_
                rintro e w9 ⟨rfl, hd9⟩
                rw [HES.out]
                have hg9 := Dr.gr hd9
                replace hgz := hgz.trans hg9
                replace d0 := cell_gr d0 hg9
                replace x1 := cell_gr x1 hg9
                have hgat : gatF (cntS W H) (putF ver s0 (ep + 1)) j = if j = s0 then ep + 1 else ver j := by unfold gatF; rw [if_pos ⟨by omega, by omega⟩]; rfl
                have HVE := hide (fun (u : World) (hu : Dr w9 u) => gversion_dr ((HG.out.gr hgz).dr hu) j)
                have HEP := hide (fun (u : World) (hu : Dr w9 u) => gepoch_dr ((HG.out.gr hgz).dr hu))
                rw [hgat] at HVE
                clear hg9 hd9 c1 c2 c3
                by_cases hjs : j = s0
                · rw [if_pos hjs] at HVE
                  have hb : ((j : Int) == (s0 : Int)) = true := by simp [hjs]
                  clear hjs hgat
                  go_wp2_with fail
                  go_quiet (first | (go_at_call 17; refine Dr.quiet (HEP.out _ ⟨_, rfl⟩)) | (go_at_call 21; refine Dr.quiet (HVE.out _ ⟨_, rfl⟩)))
                  go_wp2_with fail
                  go_roundw
                  case rel => exact ⟨j + 1, by omega, by go_num, hgz.drewN _⟩
                  case measure => simp [intOf]; omega
                · rw [if_neg hjs] at HVE
                  have hb : ((j : Int) == (s0 : Int)) = false := by simp; omega
                  clear hjs hgat
                  go_wp2_with fail
                  go_quiet (first | (go_at_call 17; refine Dr.quiet (HEP.out _ ⟨_, rfl⟩)) | (go_at_call 21; refine Dr.quiet (HVE.out _ ⟨_, rfl⟩)))
                  go_wp2_with fail
                  go_roundw
                  case rel => exact ⟨j + 1, by omega, by go_num, hgz.drewN _⟩
                  case measure => simp [intOf]; omega
              · have hjI : ¬ (j : Int) < (cntS W H : Int) := by omega
                have hBm2 := row_gr hBm hgz
                have HG2 := hide (HG.out.gr hgz)
                replace hgr := hgr.trans hgz
                clear HG HV hBm
                go_wp2_with fail
                go_roundw
                case rel => exact ⟨k + 1, _, _, _, ⟨by omega, by omega⟩, by go_num, HG2.out, ⟨by omega, by omega⟩, hBm2, hgr⟩
                case measure => simp [intOf]; omega
          · have hE : (ecF N CX CY == 0) = false := by simp [hok]
            refine (gedit_no HG.out CX CY hok).mono ?_
            rintro e w7 ⟨rfl, hg7⟩
            generalize ecF N CX CY = EC at *
            replace HG := hide (HG.out.gr hg7)
            replace hgr := hgr.trans hg7
            replace hBm := row_gr hBm hg7
            replace x1 := cell_gr x1 hg7
            replace x2 := cell_gr x2 hg7
            replace HV := hide (HV.out.gr hg7)
            have HEP := hide (fun (u : World) (hu : Dr w7 u) => gepoch_dr (HG.out.dr hu))
            have HCO := hide (fun (u : World) (hu : Dr w7 u) => gcost_dr (HG.out.dr hu) CX)
            generalize gatF N F CX = CO at *
            clear hg7
            go_wp2_with fail
            go_quiet (first | (go_at_call 17; refine Dr.quiet (HEP.out _ ⟨_, rfl⟩)) | (go_at_call 28; refine Dr.quiet (HCO.out _ ⟨_, rfl⟩)))
            go_wp2_with fail
            have hgq : Gr w7 (w7.drewN nq) := (Gr.refl w7).drewN nq
            replace hgr := hgr.trans hgq
            replace hBm := row_gr hBm hgq
            replace HG := hide (HG.out.gr hgq)
            replace x1 := cell_gr x1 hgq
            replace x2 := cell_gr x2 hgq
            replace HV := hide (HV.out.gr hgq)
            clear hgq HEP HCO
            generalize (w7.drewN nq) = w8 at *
            go_loopw [19] (fun i z => ∃ j : Nat, j ≤ cntS W H ∧ i = .int .i64 j ∧ Gr w8 z) (fun i _ => cntS W H - (intOf i).toNat)
            case atStart => exact ⟨0, Nat.zero_le _, rfl, Gr.refl _⟩
            case round =>
              obtain ⟨j, hj, rfl, hgz⟩ := hrel
              by_cases hlt : j < cntS W H
              · have hjI : (j : Int) < (cntS W H : Int) := by omega
                have d0 := (HV.out.gr hgz).cell hlt
                obtain ⟨c1, c2, c3, -, -, -⟩ := row_cells (row_gr hBm hgz)
                replace x1 := cell_gr x1 hgz
                have hgat : gatF (cntS W H) ver j = ver j := by unfold gatF; rw [if_pos ⟨by omega, by omega⟩]; rfl
                have HVE := hide (fun (u : World) (hu : Dr wr u) => gversion_dr ((HG.out.gr hgz).dr hu) j)
                have HEP := hide (fun (u : World) (hu : Dr wr u) => gepoch_dr ((HG.out.gr hgz).dr hu))
                rw [hgat] at HVE
                clear hgat
                go_wp2_with fail
                go_quiet (first | (go_at_call 17; refine Dr.quiet (HEP.out _ ⟨_, rfl⟩)) | (go_at_call 21; refine Dr.quiet (HVE.out _ ⟨_, rfl⟩)))
                go_wp2_with fail
                go_roundw
                case rel => exact ⟨j + 1, by omega, by go_num, hgz.drewN _⟩
                case measure => simp [intOf]; omega
              · have hjI : ¬ (j : Int) < (cntS W H : Int) := by omega
                have hBm2 := row_gr hBm hgz
                have HG2 := hide (HG.out.gr hgz)
                replace hgr := hgr.trans hgz
                clear HG HV hBm
                go_wp2_with fail
                go_roundw
                case rel => exact ⟨k + 1, _, _, _, ⟨by omega, by omega⟩, by go_num, HG2.out, ⟨by omega, by omega⟩, hBm2, hgr⟩
                case measure => simp [intOf]; omega

end Go.Proofs.Ytmejpildmapfiaa
