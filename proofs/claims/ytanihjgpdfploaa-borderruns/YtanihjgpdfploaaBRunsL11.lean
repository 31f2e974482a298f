/- BorderRuns' walk: the places of a sector's runs are its nodes' crosses, as many: it answers true at every input; nothing that was there is written. -/
import Derived.Test.YtanihjgpdfploaaBTold11
import Derived.Test.YtanihjgpdfploaaBCnt11
namespace Go.Proofs.Ytanihjgpdfploaa
open Go.RowKit
set_option maxRecDepth 20000

/-- how long the first j runs are, all together -/
def preL (L : List (Int × Int)) (j : Nat) : Int := ((L.take j).map Prod.snd).sum
theorem preL_step {L : List (Int × Int)} {j : Nat} (hj : j < L.length) : preL L (j + 1) = preL L j + (elP L j).2 := by
  unfold preL
  rw [List.take_add_one, elP_get? hj, List.map_append, List.sum_append]
  simp
theorem preL_bd {L : List (Int × Int)} (h : ∀ e ∈ L, 0 ≤ e.1 ∧ 1 ≤ e.2 ∧ e.1 + e.2 ≤ 16) : ∀ j, j ≤ L.length → 0 ≤ preL L j ∧ preL L j ≤ 16 * j
  | 0, _ => by simp [preL]
  | j + 1, hj => by
    have ih := preL_bd h j (by omega)
    have e := h _ (elP_mem (show j < L.length by omega))
    rw [preL_step (by omega)]
    omega
theorem preL_all (L : List (Int × Int)) : preL L L.length = (L.map Prod.snd).sum := by unfold preL; rw [List.take_length]
/-- how many crosses the first j nodes have -/
def preN (g : Nat → Nat) (L : List Nat) (j : Nat) : Nat := ((L.take j).map g).sum
theorem preN_step {g : Nat → Nat} {L : List Nat} {j : Nat} (hj : j < L.length) : preN g L (j + 1) = preN g L j + g (L.getD j 0) := by
  have e : L[j]? = some (L.getD j 0) := by simp [hj]
  unfold preN
  rw [List.take_add_one, e, List.map_append, List.sum_append]
  simp
theorem preN_bd {g : Nat → Nat} (h : ∀ c, g c ≤ 2) {L : List Nat} : ∀ j, j ≤ L.length → preN g L j ≤ 2 * j
  | 0, _ => by simp [preN]
  | j + 1, hj => by
    have ih := preN_bd h (L := L) j (by omega)
    have e := h (L.getD j 0)
    rw [preN_step (by omega)]
    omega
theorem getD_pair {L : List Nat} (hp : L.Pairwise (· < ·)) {j : Nat} (hj : j + 1 < L.length) : L.getD j 0 < L.getD (j + 1) 0 := by
  have e1 : L.getD j 0 = L[j] := by simp [show j < L.length by omega]
  have e2 : L.getD (j + 1) 0 = L[j + 1] := by simp [hj]
  rw [e1, e2]
  exact List.pairwise_iff_getElem.1 hp j (j + 1) (by omega) hj (by omega)
theorem elP_pair {L : List (Int × Int)} (hp : L.Pairwise (fun a b => a.1 + a.2 < b.1)) {j : Nat} (hj : j + 1 < L.length) : (elP L j).1 + (elP L j).2 < (elP L (j + 1)).1 := by
  have e1 : elP L j = L[j] := by simp [elP, show j < L.length by omega]
  have e2 : elP L (j + 1) = L[j + 1] := by simp [elP, hj]
  rw [e1, e2]
  exact List.pairwise_iff_getElem.1 hp j (j + 1) (by omega) hj (by omega)

set_option maxHeartbeats 8000000 in
theorem borderRuns_any (x y : Int) (a : Option Addr) (n cap : Nat) (f : Nat → Int) (sc : Int) (w : World) (h : Sl w a n f) (hn : n ≤ maxLen) :
    Calls Try.prog 6 #[.int .i64 x, .int .i64 y, .slice a n cap, .int .i64 sc] w fun e w' => e = .returned (.bool true) ∧ Gr w w' := by
  go_enter Try.func6, Try.ntmps6
  go_wp2_with fail
  refine (made_any x y a n cap f w h hn).mono ?_
  rintro e w1 ⟨⟨gm, cm, N, rfl, hN, hown⟩, hg1⟩
  have hm := gmade_may h.byte hN
  obtain ⟨N1, N2⟩ := gmade_n hN
  generalize withinF x 1 40 = W at *
  generalize withinF y 1 40 = H at *
  generalize madeF n f = F at *
  have hBm := tri_alloc w1 (.int .i64 W) (.int .i64 H) (.slice (some ⟨gm, 0, none⟩) N cm) 24
  have hgr : Gr w (w1.alloc (.cells #[.int .i64 W, .int .i64 H, .slice (some ⟨gm, 0, none⟩) N cm] 24)) := hg1.alloc _
  have hsl := hown.sl.2.2.2.2.gr ((Gr.refl w1).alloc (.cells #[.int .i64 W, .int .i64 H, .slice (some ⟨gm, 0, none⟩) N cm] 24))
  obtain ⟨q1, q2, q3, q4, -⟩ := hown.sl
  have HN := hide hN
  have HM := hide hm
  clear hown hg1 h hn hN hm
  go_wp2_with fail
  generalize (w1.alloc (.cells #[.int .i64 W, .int .i64 H, .slice (some ⟨gm, 0, none⟩) N cm] 24)) = u1 at *
  generalize w1.heap.size = B0 at *
  have z0 := hBm.lt
  have zs := hgr.size
  have zg : gm < u1.heap.size := by
    obtain ⟨b', o', e', hb', -⟩ := hsl.at (by omega)
    cases e'
    exact hb'
  refine (gnew_yes W H _ N cm F 0 u1 hsl HM.out (by omega)).mono ?_
  rintro e w3 ⟨⟨p, c, v, cc, rfl, hgd, hp, hc, hv⟩, hg3⟩
  replace hgr := hgr.trans hg3
  replace hBm := row_gr hBm hg3
  replace hsl := hsl.gr hg3
  have hpw : w.heap.size ≤ p ∧ w.heap.size ≤ c ∧ w.heap.size ≤ v ∧ B0 ≠ p ∧ B0 ≠ c ∧ B0 ≠ v ∧ gm ≠ p ∧ gm ≠ c ∧ gm ≠ v := by omega
  obtain ⟨c1, c2, c3, -, -, -⟩ := row_cells hBm
  have HG := hide hgd
  obtain ⟨hmb, hNm, -, -, b3, b4, b5⟩ := hgd.bd
  have HNm := hide hNm
  clear hg3 hgd hp hc hv z0 zs zg hNm
  obtain ⟨S, hS⟩ : ∃ S : Nat, S = (withinF sc 0 ((cntS W H : Int) - 1)).toNat := ⟨_, rfl⟩
  have lb := within_bd sc 0 ((cntS W H : Int) - 1) (by omega)
  have hS2 : withinF sc 0 ((cntS W H : Int) - 1) = S := by omega
  have hSC : S < cntS W H := by omega
  have wC : IntKind.i64.wrap ((cntS W H : Int) - 1) = (cntS W H : Int) - 1 := wrapI (by omega)
  have HSI := hide hS2
  have hsec := sec_of hSC
  clear lb hS hS2
  go_wp2_with fail
  refine (rcount_any W H _).mono ?_
  rintro e w4 ⟨rfl, hd4⟩
  rw [← b5]
  replace hgr := hgr.trans hd4.gr
  replace hBm := row_gr hBm hd4.gr
  replace hsl := hsl.gr hd4.gr
  replace HG := hide (HG.out.gr hd4.gr)
  clear hd4 c1 c2 c3 b5
  obtain ⟨c1, c2, c3, -, -, -⟩ := row_cells hBm
  go_wp2_with fail
  refine (within_st _ _ _ _ (by omega) (by omega) (by omega)).mono ?_
  rintro e w5 ⟨rfl, hw5⟩
  subst hw5
  rw [HSI.out]
  have P16 : ∀ sd : Nat, sd ≤ 4 → (sumN sd fun side => sumN (longF W H S side) fun k => b01 (plcB W H N F S side k)) ≤ 16 * sd := by
    intro sd
    induction sd with
    | zero => intro _; simp [sumN]
    | succ sd ih =>
      intro hsd
      have h1 := sumN_le (n := longF W H S sd) (g := fun k => b01 (plcB W H N F S sd k)) (h := fun _ => 1) fun _ _ => b01_le _
      rw [sumN_const] at h1
      have h2 := (loc_ok hsec (show sd ≤ 3 by omega)).2.1
      have h3 := ih (by omega)
      simp only [sumN]
      omega
  have HP16 := hide P16
  have HG0 := hide HG.out
  have HB0 := hide hBm
  have HS0 := hide hsl
  have HSEC := hide hsec
  clear c1 c2 c3 hBm hsl HG P16 wC hsec
  go_wp2_with fail
  go_loopw [12, 14] (fun pl i z => ∃ sd : Nat, sd ≤ 4 ∧ i = .int .i64 sd ∧ pl = .int .i64 (sumN sd fun side => sumN (longF W H S side) fun k => b01 (plcB W H N F S side k) : Nat) ∧ Gr w5 z) (fun _ i _ => 4 - (intOf i).toNat)
  case atStart => exact ⟨0, Nat.zero_le _, rfl, rfl, Gr.refl _⟩
  case round =>
    obtain ⟨sd, hsd, rfl, rfl, hgz⟩ := hrel
    by_cases hlt : sd < 4
    · have hkI : (sd : Int) ≤ 3 := by omega
      have hP := HP16.out sd (by omega)
      obtain ⟨PP, hPP⟩ : ∃ PP, (sumN sd fun side => sumN (longF W H S side) fun k => b01 (plcB W H N F S side k)) = PP := ⟨_, rfl⟩
      have hNX : (sumN (sd + 1) fun side => sumN (longF W H S side) fun k => b01 (plcB W H N F S side k)) = PP + sumN (longF W H S sd) fun k => b01 (plcB W H N F S sd k) := by rw [← hPP]; rfl
      rw [hPP] at hP ⊢
      have HNX := hide hNX
      clear hNX hPP
      go_wp2_with fail
      refine (bruns_yes (HG0.out.gr hgz) S sd HSEC.out (by omega)).mono ?_
      rintro e w6 ⟨⟨v6, rfl, hown⟩, hg6⟩
      obtain ⟨a6, cp6, rfl, hpl⟩ := PlS.of_own (w := w6) hown
      have hr := runsL_at (N := N) (f := F) HSEC.out (show sd ≤ 3 by omega)
      have hlo := (loc_ok HSEC.out (show sd ≤ 3 by omega)).2.1
      obtain ⟨r1, r2, r3⟩ := runs_ok (plcB W H N F S sd) (longF W H S sd)
      have r4 := runs_len (plcB W H N F S sd) (longF W H S sd)
      rw [← hr] at r1 r2 r3 r4
      have HNX2 := hide r3
      obtain ⟨L, hL⟩ : ∃ L, runsL W H N F S sd = L := ⟨_, rfl⟩
      rw [hL] at hpl r1 r2 r4 HNX2 ⊢
      have r5 : ∀ e ∈ L, 0 ≤ e.1 ∧ 1 ≤ e.2 ∧ e.1 + e.2 ≤ 16 := fun e he => by have := r1 e he; omega
      obtain ⟨nr, hnr⟩ : ∃ nr, L.length = nr := ⟨_, rfl⟩
      rw [hnr] at hpl r4 ⊢
      have nr16 : nr ≤ 16 := by omega
      have HNR := hide hnr
      have HPL := hide hpl
      have HR2 := hide r2
      have HR5 := hide r5
      have HGR6 := hide (hgz.trans hg6)
      clear hown hg6 hr hlo r1 r2 r3 r4 r5 hL hnr hpl hgz
      go_wp2_with fail
      go_loopw [12, 16] (fun pl i z => ∃ j : Nat, j ≤ nr ∧ i = .int .i64 j ∧ pl = .int .i64 ((PP : Int) + preL L j) ∧ Gr w6 z) (fun _ i _ => nr - (intOf i).toNat)
      case atStart => exact ⟨0, Nat.zero_le _, rfl, by simp [preL], Gr.refl _⟩
      case round =>
        obtain ⟨j, hj, rfl, rfl, hgz⟩ := hrel
        by_cases hltj : j < nr
        · have hjI : (j : Int) < (nr : Int) := by omega
          have hj0 : 0 ≤ (j : Int) := by omega
          obtain ⟨bo, oo, rfl, hbo, hco⟩ := HPL.out.at (by omega)
          have o1 := cell_gr (hco j hltj).1 hgz
          have o2 := cell_gr (hco j hltj).2 hgz
          have hjl : j < L.length := by rw [HNR.out]; exact hltj
          have hst := preL_step hjl
          have hbd := preL_bd HR5.out j (by omega)
          obtain ⟨f1, f2, f3⟩ := HR5.out _ (elP_mem hjl)
          have HGRz := hide hgz
          have HCO := hide hco
          obtain ⟨fr, hfr⟩ : ∃ fr, (elP L j).1 = fr := ⟨_, rfl⟩
          obtain ⟨ln, hln⟩ : ∃ ln, (elP L j).2 = ln := ⟨_, rfl⟩
          have hpr : ∀ j', j = j' + 1 → (elP L j').1 + (elP L j').2 < fr := fun j' e => by
            have := elP_pair HR2.out (j := j') (by rw [HNR.out]; omega)
            rw [← e, hfr] at this
            exact this
          have HPR := hide hpr
          rw [hfr] at o1 f1 f3
          rw [hln] at o2 f2 f3 hst
          have HE : Hid ((PP : Int) + preL L (j + 1) = PP + preL L j + ln) := hide (by rw [hst]; omega)
          generalize preL L j = P0 at *
          have w1 : IntKind.i64.wrap (fr + ln) = fr + ln := wrapI (by omega)
          have w2 : IntKind.i64.wrap (PP + P0 + ln) = PP + P0 + ln := wrapI (by omega)
          have f4 : ¬ ln < 1 := by omega
          clear hco hgz hjl hst hfr hln hpr
          by_cases j0 : j = 0
          · have K1 := hide j0
            clear j0
            go_wp2_with fail
            have k1 : decide (0 < j) = false := by have := K1.out; simp; omega
            have k1' : decide (0 < (j : Int)) = false := by have := K1.out; simp; omega
            have x1 : decide (ln < 1) = false := by simp; omega
            have x2 : decide (fr < 0) = false := by simp; omega
            have x3 : decide (16 < fr + ln) = false := by simp; omega
            go_quiet (fail)
            go_wp2_with fail
            go_roundw
            case rel => exact ⟨j + 1, by omega, by go_num, by rw [HE.out], HGRz.out.drewN _⟩
            case measure => simp [intOf]; omega
          · obtain ⟨j', hj'⟩ : ∃ j', j' = j - 1 := ⟨j - 1, rfl⟩
            have l1 := cell_gr (HCO.out j' (by omega)).1 HGRz.out
            have l2 := cell_gr (HCO.out j' (by omega)).2 HGRz.out
            have hq := HPR.out j' (by omega)
            obtain ⟨p1, p2, p3⟩ := HR5.out _ (elP_mem (show j' < L.length by rw [HNR.out]; omega))
            generalize (elP L j').1 = pf at *
            generalize (elP L j').2 = pn at *
            have w3 : IntKind.i64.wrap (pf + pn) = pf + pn := wrapI (by omega)
            have wk : IntKind.i64.wrap ((j : Int) - 1) = (j' : Int) := by rw [wrapI (by omega)]; omega
            have K1 := hide j0
            have k2 : (j' : Int) < (nr : Int) := by omega
            have k3 : 0 ≤ (j' : Int) := by omega
            clear hj' j0
            go_wp2_with fail
            have k1 : decide (0 < j) = true := by have := K1.out; simp; omega
            have k1' : decide (0 < (j : Int)) = true := by have := K1.out; simp; omega
            have x1 : decide (ln < 1) = false := by simp; omega
            have x2 : decide (fr < 0) = false := by simp; omega
            have x3 : decide (16 < fr + ln) = false := by simp; omega
            have x4 : decide (fr ≤ pf + pn) = false := by simp; omega
            go_quiet (fail)
            go_wp2_with fail
            go_roundw
            case rel => exact ⟨j + 1, by omega, by go_num, by rw [HE.out], HGRz.out.drewN _⟩
            case measure => simp [intOf]; omega
        · have hjn : j = nr := by omega
          have hjI : ¬ (j : Int) < (nr : Int) := by omega
          have HE : Hid ((PP : Int) + preL L j = (sumN (sd + 1) fun side => sumN (longF W H S side) fun k => b01 (plcB W H N F S side k) : Nat)) := hide (by
            have := HNX.out
            have q := HNX2.out
            have r := preL_all L
            rw [HNR.out, ← hjn] at r
            rw [r, q]
            omega)
          rw [HE.out]
          have HGRz := hide hgz
          clear hgz hjn
          go_wp2_with fail
          go_roundw
          case rel => exact ⟨sd + 1, by omega, by go_num, rfl, HGR6.out.trans HGRz.out⟩
          case measure => simp [intOf]; omega
    · have hsd4 : sd = 4 := by omega
      subst hsd4
      have hT := crosses_places (N := N) (f := F) HSEC.out
      have h60 := nodes_sixty (N := N) (f := F) HSEC.out
      obtain ⟨hr1, hr2⟩ := nodesL_rise (N := N) (f := F) HSEC.out
      have hP := HP16.out 4 (by omega)
      obtain ⟨PP, hPP⟩ : ∃ PP, (sumN 4 fun side => sumN (longF W H S side) fun k => b01 (plcB W H N F S side k)) = PP := ⟨_, rfl⟩
      rw [hPP] at hT hP ⊢
      have hG2 : ∀ c : Nat, (fun (c : Nat) => (crossK W H N F (c : Int) 4).length) c ≤ 2 := fun c => by
        have := sides_two W H N F c
        simpa [crossK] using this
      have HGE : Hid (∀ c : Nat, (crossK W H N F (c : Int) 4).length = (fun (c : Nat) => (crossK W H N F (c : Int) 4).length) c) := hide fun _ => rfl
      generalize (fun (c : Nat) => (crossK W H N F (c : Int) 4).length) = G at *
      clear hPP
      go_wp2_with fail
      refine (bnodes_any (HG0.out.gr hgz) S).mono ?_
      rintro e w6 ⟨⟨v6, rfl, hown⟩, hg6⟩
      obtain ⟨a6, cp6, rfl, hil⟩ := IlS.slot (w := w6) hown
      obtain ⟨NL, hNL⟩ : ∃ NL, nodesL W H N F S = NL := ⟨_, rfl⟩
      rw [hNL] at hil hT h60 hr1 hr2 ⊢
      obtain ⟨nn, hnn⟩ : ∃ nn, NL.length = nn := ⟨_, rfl⟩
      have HNN := hide hnn
      rw [hnn] at hil h60 ⊢
      have HT : Hid (preN G NL nn = PP) := hide (by unfold preN; rw [← hnn, List.take_length]; exact hT)
      have HIL := hide hil
      have HR1 := hide hr1
      have HR2 := hide hr2
      have HG2 := hide hG2
      have HB6 := hide (row_gr HB0.out (hgz.trans hg6))
      have HS6 := hide (HS0.out.gr (hgz.trans hg6))
      have HG6 := hide (HG0.out.gr (hgz.trans hg6))
      have HGR6 := hide (hgr.trans (hgz.trans hg6))
      clear hown hg6 hgz hil hT hr1 hr2 hNL hnn hG2
      go_wp2_with fail
      go_loopw [13, 18] (fun cr i z => ∃ j : Nat, j ≤ nn ∧ i = .int .i64 j ∧ cr = .int .i64 (preN G NL j : Nat) ∧ Gr w6 z) (fun _ i _ => nn - (intOf i).toNat)
      case atStart => exact ⟨0, Nat.zero_le _, rfl, by simp [preN], Gr.refl _⟩
      case round =>
        obtain ⟨j, hj, rfl, rfl, hgz⟩ := hrel
        by_cases hltj : j < nn
        · have hjI : (j : Int) < (nn : Int) := by omega
          have hj0 : 0 ≤ (j : Int) := by omega
          have hjl : j < NL.length := by rw [HNN.out]; exact hltj
          obtain ⟨bo, oo, rfl, hbo, hco⟩ := HIL.out.at (by omega)
          have o1 := cell_gr (hco j hltj) hgz
          have HCO := hide hco
          have hpr : ∀ j', j = j' + 1 → NL.getD j' 0 < NL.getD j 0 := fun j' e => by
            have := getD_pair HR1.out (j := j') (by rw [HNN.out]; omega)
            rw [← e] at this
            exact this
          have hmem : NL.getD j 0 ∈ NL := by
            have e : NL[j]? = some (NL.getD j 0) := by simp [hjl]
            exact List.mem_of_getElem? e
          obtain ⟨k1, k2, k3, -⟩ := HR2.out _ hmem
          have hst := preN_step (g := G) hjl
          have hbd := preN_bd HG2.out (L := NL) j (by omega)
          have hg2 := HG2.out (NL.getD j 0)
          obtain ⟨g, hg⟩ : ∃ g, NL.getD j 0 = g := ⟨_, rfl⟩
          rw [hg] at o1 hpr k1 k2 k3 hst hg2
          have HPR := hide hpr
          obtain ⟨-, gN, g5⟩ := (opB_iff _ _ _).1 k3
          rw [Int.toNat_natCast] at g5
          have gN' : g < N := by omega
          have hSl := HS6.out.gr hgz
          have bg := hSl.byte g gN'
          obtain ⟨gm', o', eg, -, hcm⟩ := hSl.at (by omega)
          cases eg
          have m1 := hcm g gN'
          rw [Nat.zero_add] at m1
          obtain ⟨c1, c2, c3, -, -, -⟩ := row_cells (row_gr HB6.out hgz)
          have HSA := hide (fun u => sector_any W H g u)
          rw [secF_yes k1, k2] at HSA
          have HGq := hide (HG6.out.gr hgz)
          obtain ⟨q, hq⟩ : ∃ q, G g = q := ⟨_, rfl⟩
          have HGg := hide ((HGE.out g).trans hq)
          rw [hq] at hst hg2
          generalize F g = zg at *
          obtain ⟨bg1, bg2⟩ := bg
          obtain ⟨P0, hP0⟩ : ∃ P0, preN G NL j = P0 := ⟨_, rfl⟩
          rw [hP0] at hst hbd ⊢
          have HE := hide hst
          have gc : g < cm := by omega
          have g0 : 0 ≤ (g : Int) := by omega
          have w1 : IntKind.i64.wrap ((P0 : Int) + (q : Int)) = (P0 : Int) + (q : Int) := wrapI (by omega)
          have HGRz := hide hgz
          have G5 := hide g5
          have GN := hide gN'
          clear hco hgz hjl hst hpr hmem k1 k2 k3 hg hcm hSl hP0 hq g5 gN'
          by_cases j0 : j = 0
          · have K1 := hide j0
            clear j0
            go_wp2_with fail
            have k1 : decide (0 < j) = false := by have := K1.out; simp; omega
            have k1' : decide (0 < (j : Int)) = false := by have := K1.out; simp; omega
            have x1 : decide ((g : Int) < 0) = false := by simp
            have x2 : decide ((N : Int) ≤ (g : Int)) = false := by have := GN.out; simp; omega
            have x2' : decide (N ≤ g) = false := by have := GN.out; simp; omega
            have x3 : (zg == 255) = false := by have := G5.out; simpa using this
            go_quiet ((go_at_call 26; refine Dr.quiet (HSA.out _)))
            go_wp2_with fail
            refine (bcross_any (HGq.out.gr ((Gr.refl _).drewN _)) g).mono ?_
            rintro e w9 ⟨⟨v9, rfl, hown⟩, hg9⟩
            replace hg9 := ((Gr.refl wr).drewN _).trans hg9
            obtain ⟨a9, cp9, rfl, -⟩ := PlS.of_own (w := w9) hown
            rw [HGg.out]
            clear hown
            go_wp2_with fail
            go_roundw
            case rel => exact ⟨j + 1, by omega, by go_num, by rw [HE.out]; push_cast; rfl, HGRz.out.trans hg9⟩
            case measure => simp [intOf]; omega
          · obtain ⟨j', hj'⟩ : ∃ j', j' = j - 1 := ⟨j - 1, rfl⟩
            have l1 := cell_gr (HCO.out j' (by omega)) HGRz.out
            have hlt2 := HPR.out j' (by omega)
            generalize NL.getD j' 0 = g' at *
            have HLT := hide hlt2
            have wk : IntKind.i64.wrap ((j : Int) - 1) = (j' : Int) := by rw [wrapI (by omega)]; omega
            have k2 : (j' : Int) < (nn : Int) := by omega
            have k3 : 0 ≤ (j' : Int) := by omega
            have K1 := hide j0
            clear hj' j0 hlt2
            go_wp2_with fail
            have k1 : decide (0 < j) = true := by have := K1.out; simp; omega
            have k1' : decide (0 < (j : Int)) = true := by have := K1.out; simp; omega
            have x1 : decide ((g : Int) < 0) = false := by simp
            have x2 : decide ((N : Int) ≤ (g : Int)) = false := by have := GN.out; simp; omega
            have x2' : decide (N ≤ g) = false := by have := GN.out; simp; omega
            have x3 : (zg == 255) = false := by have := G5.out; simpa using this
            have x4 : decide ((g : Int) ≤ (g' : Int)) = false := by have := HLT.out; simp; omega
            have x4' : decide (g ≤ g') = false := by have := HLT.out; simp; omega
            go_quiet ((go_at_call 26; refine Dr.quiet (HSA.out _)))
            go_wp2_with fail
            refine (bcross_any (HGq.out.gr ((Gr.refl _).drewN _)) g).mono ?_
            rintro e w9 ⟨⟨v9, rfl, hown⟩, hg9⟩
            replace hg9 := ((Gr.refl wr).drewN _).trans hg9
            obtain ⟨a9, cp9, rfl, -⟩ := PlS.of_own (w := w9) hown
            rw [HGg.out]
            clear hown
            go_wp2_with fail
            go_roundw
            case rel => exact ⟨j + 1, by omega, by go_num, by rw [HE.out]; push_cast; rfl, HGRz.out.trans hg9⟩
            case measure => simp [intOf]; omega
        · have hjn : j = nn := by omega
          have hjI : ¬ (j : Int) < (nn : Int) := by omega
          subst hjn
          rw [HT.out]
          have h6 : (j : Int) ≤ 60 := by omega
          go_wp2_with fail
          refine (told11_any _).mono ?_
          rintro e w9 ⟨rfl, hg9⟩
          go_wp2_with fail
          go_ret
          exact ⟨ret_bool (by simp), (HGR6.out.trans hgz).trans hg9⟩
end Go.Proofs.Ytanihjgpdfploaa
