/- BorderEdits' walk: a wall laid at a node takes it away; laid open again it is as it was: it answers true at every input; nothing that was there is written. -/
import Derived.Test.YtanihjgpdfploaaBTold11
import Derived.Test.YtanihjgpdfploaaBCnt11
namespace Go.Proofs.Ytanihjgpdfploaa
open Go.RowKit
set_option maxRecDepth 20000

theorem IlS.kp {S : Nat → Prop} {w w' : World} (k : Kp S w w') {b o n c : Nat} {L : List Nat} (h : IlS w (some ⟨b, o, none⟩) n c L) (hb : ¬ S b) : IlS w' (some ⟨b, o, none⟩) n c L := by
  rcases h with ⟨e, _⟩ | ⟨x, h0, h1, h2, h3, h4⟩
  · cases e
  · refine .inr ⟨x, h0, h1, h2, h3, ?_⟩
    rcases h4 with h4 | ⟨b', o', e, hB, hc⟩
    · exact .inl h4
    · subst e
      cases h0
      exact .inr ⟨b, o, rfl, Nat.lt_of_lt_of_le hB k.size, fun j u hu => k.cell (hc j u hu) hb⟩
theorem put_back (f : Nat → Int) (i : Nat) (x : Int) : putF (putF f i x) i (f i) = f := by
  funext j
  unfold putF
  by_cases h : j = i
  · rw [if_pos h, h]
  · rw [if_neg h, if_neg h]

set_option maxHeartbeats 8000000 in
theorem borderEdits_any (x y : Int) (a : Option Addr) (n cap : Nat) (f : Nat → Int) (sc wh : Int) (w : World) (h : Sl w a n f) (hn : n ≤ maxLen) :
    Calls Try.prog 7 #[.int .i64 x, .int .i64 y, .slice a n cap, .int .i64 sc, .int .i64 wh] w fun e w' => e = .returned (.bool true) ∧ Gr w w' := by
  go_enter Try.func7, Try.ntmps7
  go_wp2_with fail
  refine (made_any x y a n cap f w h hn).mono ?_
  rintro e w1 ⟨⟨gm, cm, N, rfl, hN, hown⟩, hg1⟩
  have hm := gmade_may h.byte hN
  obtain ⟨N1, N2⟩ := gmade_n hN
  generalize withinF x 1 40 = W at *
  generalize withinF y 1 40 = H at *
  generalize madeF n f = F at *
  have hBm := tri_alloc w1 (.int .i64 W) (.int .i64 H) (.slice (some ⟨gm, 0, none⟩) N cm) 24
  have hgr : Gr w (w1.alloc (.cells #[.int .i64 W, .int .i64 H, .slice (some ⟨gm, 0, none⟩) N cm] 24)) := hg1.alloc _
  have hsl := hown.sl.2.2.2.2.gr ((Gr.refl w1).alloc (.cells #[.int .i64 W, .int .i64 H, .slice (some ⟨gm, 0, none⟩) N cm] 24))
  obtain ⟨q1, q2, q3, q4, -⟩ := hown.sl
  have HN := hide hN
  have HM := hide hm
  clear hown hg1 h hn hN hm
  go_wp2_with fail
  generalize (w1.alloc (.cells #[.int .i64 W, .int .i64 H, .slice (some ⟨gm, 0, none⟩) N cm] 24)) = u1 at *
  generalize w1.heap.size = B0 at *
  have z0 := hBm.lt
  have zs := hgr.size
  have zg : gm < u1.heap.size := by
    obtain ⟨b', o', e', hb', -⟩ := hsl.at (by omega)
    cases e'
    exact hb'
  refine (gnew_yes W H _ N cm F 0 u1 hsl HM.out (by omega)).mono ?_
  rintro e w3 ⟨⟨p, c, v, cc, rfl, hgd, hp, hc, hv⟩, hg3⟩
  replace hgr := hgr.trans hg3
  replace hBm := row_gr hBm hg3
  replace hsl := hsl.gr hg3
  have hpw : w.heap.size ≤ p ∧ w.heap.size ≤ c ∧ w.heap.size ≤ v ∧ B0 ≠ p ∧ B0 ≠ c ∧ B0 ≠ v ∧ gm ≠ p ∧ gm ≠ c ∧ gm ≠ v := by omega
  obtain ⟨c1, c2, c3, -, -, -⟩ := row_cells hBm
  have HG := hide hgd
  obtain ⟨hmb, hNm, -, -, b3, b4, b5⟩ := hgd.bd
  have HNm := hide hNm
  clear hg3 hgd hp hc hv z0 zs zg hNm
  obtain ⟨S, hS⟩ : ∃ S : Nat, S = (withinF sc 0 ((cntS W H : Int) - 1)).toNat := ⟨_, rfl⟩
  have lb := within_bd sc 0 ((cntS W H : Int) - 1) (by omega)
  have hS2 : withinF sc 0 ((cntS W H : Int) - 1) = S := by omega
  have hSC : S < cntS W H := by omega
  have wC : IntKind.i64.wrap ((cntS W H : Int) - 1) = (cntS W H : Int) - 1 := wrapI (by omega)
  have HSI := hide hS2
  have hsec := sec_of hSC
  clear lb hS hS2
  go_wp2_with fail
  refine (rcount_any W H _).mono ?_
  rintro e w4 ⟨rfl, hd4⟩
  rw [← b5]
  replace hgr := hgr.trans hd4.gr
  replace hBm := row_gr hBm hd4.gr
  replace hsl := hsl.gr hd4.gr
  replace HG := hide (HG.out.gr hd4.gr)
  clear hd4 c1 c2 c3 b5
  obtain ⟨c1, c2, c3, -, -, -⟩ := row_cells hBm
  go_wp2_with fail
  refine (within_st _ _ _ _ (by omega) (by omega) (by omega)).mono ?_
  rintro e w5 ⟨rfl, hw5⟩
  subst hw5
  rw [HSI.out]
  go_wp2_with fail
  refine (bnodes_any HG.out S).mono ?_
  rintro e w6 ⟨⟨v6, rfl, hown⟩, hg6⟩
  have zp := HG.out.box.lt
  have zc := HG.out.cost.lt
  have zv := HG.out.vers.lt
  obtain ⟨a6, cp6, rfl, hil⟩ := IlS.slot (w := w6) hown
  have HOWN := hide hown
  replace hgr := hgr.trans hg6
  replace hBm := row_gr hBm hg6
  replace hsl := hsl.gr hg6
  replace HG := hide (HG.out.gr hg6)
  have h60 := nodes_sixty (N := N) (f := F) hsec
  obtain ⟨hr1, hr2⟩ := nodesL_rise (N := N) (f := F) hsec
  have HW := hide (fun i => nodes_wall W H N F S i)
  obtain ⟨NL, hNL⟩ : ∃ NL, nodesL W H N F S = NL := ⟨_, rfl⟩
  have HNL := hide hNL
  rw [hNL] at hil h60 hr1 hr2 HW ⊢
  obtain ⟨nn, hnn⟩ : ∃ nn, NL.length = nn := ⟨_, rfl⟩
  have HNN := hide hnn
  rw [hnn] at hil h60 ⊢
  have zB := hBm.lt
  clear hown hg6 hNL hnn c1 c2 c3 wC
  by_cases n0 : nn = 0
  · subst n0
    go_wp2_with fail
    refine (told11_any _).mono ?_
    rintro e w9 ⟨rfl, hg9⟩
    go_wp2_with fail
    go_ret
    exact ⟨rfl, hgr.trans hg9⟩
  have n00 : ((nn : Int) == 0) = false := by simp; omega
  obtain ⟨J, hJ⟩ : ∃ J : Nat, J = (withinF wh 0 ((nn : Int) - 1)).toNat := ⟨_, rfl⟩
  have lb := within_bd wh 0 ((nn : Int) - 1) (by omega)
  have hJ2 : withinF wh 0 ((nn : Int) - 1) = J := by omega
  have hJn : J < nn := by omega
  have wC : IntKind.i64.wrap ((nn : Int) - 1) = (nn : Int) - 1 := wrapI (by omega)
  have HJI := hide hJ2
  have J0 : 0 ≤ (J : Int) := by omega
  have J1 : (J : Int) < (nn : Int) := by omega
  clear lb hJ hJ2
  go_wp2_with fail
  refine (within_st _ _ _ _ (by omega) (by omega) (by omega)).mono ?_
  rintro e w7 ⟨rfl, hw7⟩
  subst hw7
  rw [HJI.out]
  obtain ⟨bo, cap', eo, zo, -⟩ := World.ownsRow.form HOWN.out (by rw [HNL.out, HNN.out]; omega)
  cases eo
  have nO : ¬ Of3 p c v bo := by rintro (e | e | e) <;> omega
  obtain ⟨bo', oo, eo, hbo, hco⟩ := hil.at (by omega)
  cases eo
  have o1 := hco J hJn
  rw [Nat.zero_add] at o1
  have hjl : J < NL.length := by rw [HNN.out]; exact hJn
  have hmem : NL.getD J 0 ∈ NL := by
    have e : NL[J]? = some (NL.getD J 0) := by simp [hjl]
    exact List.mem_of_getElem? e
  obtain ⟨I, hI⟩ : ∃ I, NL.getD J 0 = I := ⟨_, rfl⟩
  rw [hI] at o1 hmem
  obtain ⟨-, -, hop, -⟩ := hr2 _ hmem
  obtain ⟨-, IN, I5⟩ := (opB_iff _ _ _).1 hop
  rw [Int.toNat_natCast] at I5
  have hIN : I < N := by omega
  obtain ⟨fl1, fl2⟩ := filter_one hr1 hmem
  rw [← HW.out I] at fl1 fl2
  have HFL2 := hide fl2
  have bI := hsl.byte I hIN
  obtain ⟨gm', o', eg, -, hcm⟩ := hsl.at (by omega)
  cases eg
  have m1 := hcm I hIN
  rw [Nat.zero_add] at m1
  have hF0 : F I ≠ 0 := ((mayM_iff _ _ _ _).1 HM.out).2.2 I hIN
  obtain ⟨c1, c2, c3, -, -, -⟩ := row_cells hBm
  have I0 : 0 ≤ (I : Int) := by omega
  have I1 : (I : Int) < (N : Int) := IN
  have ic : I < cm := by omega
  clear hco hjl hI hop IN hr2 fl2 hcm
  go_wp2_with fail
  refine (gedit_yes HG.out I 255 hIN (by omega) (by omega)).mono ?_
  rintro e w8 ⟨rfl, hgd, hk⟩
  replace HG := hide hgd
  have nB : ¬ Of3 p c v B0 := by rintro (e | e | e) <;> omega
  have nG : ¬ Of3 p c v gm := by rintro (e | e | e) <;> omega
  replace hBm := hk.row hBm nB
  replace hsl := hk.sl hsl nG
  replace hgr := hk.gr hgr (fun k hk => by rcases hk with e | e | e <;> omega)
  replace hil := hil.kp hk nO
  have m1 := hk.cell m1 nG
  obtain ⟨c1, c2, c3, -, -, -⟩ := row_cells hBm
  obtain ⟨zi, hzi⟩ : ∃ zi, F I = zi := ⟨_, rfl⟩
  rw [hzi] at bI m1 hF0 I5
  have HZ := hide hzi
  obtain ⟨bI1, bI2⟩ := bI
  have wi : IntKind.i64.wrap zi = zi := wrapI (by omega)
  clear hk o1 hzi
  go_wp2_with fail
  refine (bnodes_any HG S).mono ?_
  rintro e w9 ⟨⟨v9, rfl, hown9⟩, hg9⟩
  obtain ⟨a9, cp9, rfl, hol⟩ := IlS.slot (w := w9) hown9
  obtain ⟨OL, hOL⟩ : ∃ OL, nodesL W H N (putF F I 255) S = OL := ⟨_, rfl⟩
  have hfl := HFL2.out
  rw [hOL] at hol fl1 hfl ⊢
  obtain ⟨no, hno⟩ : ∃ no, OL.length = no := ⟨_, rfl⟩
  have HNO := hide hno
  have HFL := hide hfl
  rw [hno] at hol fl1 ⊢
  rw [HNN.out] at fl1
  have wD : IntKind.i64.wrap ((nn : Int) - 1) = (no : Int) := by rw [wrapI (by omega)]; omega
  have no60 : no ≤ 60 := by omega
  replace HG := HG.gr hg9
  replace hgr := hgr.trans hg9
  replace hBm := row_gr hBm hg9
  replace hsl := hsl.gr hg9
  replace hil := hil.gr hg9
  replace m1 := cell_gr m1 hg9
  have HOL := hide hol
  have HG9 := hide HG
  have HB9 := hide hBm
  have HS9 := hide hsl
  have HI9 := hide hil
  have HM9 := hide m1
  have HFL1 := hide fl1
  clear hown9 hg9 hfl hOL hno hol HG hBm hsl hil m1 wC fl1 c1 c2 c3
  go_wp2_with fail
  go_loopw [17] (fun i z => ∃ k : Nat, k ≤ no ∧ i = .int .i64 k ∧ Gr w9 z) (fun i _ => no - (intOf i).toNat)
  case atStart => exact ⟨0, Nat.zero_le _, rfl, Gr.refl _⟩
  case round =>
    obtain ⟨k, hk, rfl, hgz⟩ := hrel
    by_cases hlt : k < no
    · have hkI : (k : Int) < (no : Int) := by omega
      have hk0 : 0 ≤ (k : Int) := by omega
      obtain ⟨b2, o2, rfl, hb2, hc2⟩ := HOL.out.at (by omega)
      have d1 := cell_gr (hc2 k hlt) hgz
      have hkl : k < OL.length := by rw [HNO.out]; exact hlt
      have hmk : OL.getD k 0 ∈ OL := by
        have e : OL[k]? = some (OL.getD k 0) := by simp [hkl]
        exact List.mem_of_getElem? e
      generalize OL.getD k 0 = gk at *
      have hne : ((gk : Int) == (I : Int)) = false := by
        have : gk ≠ I := fun e => HFL.out (by rw [← e]; exact hmk)
        simpa using (by omega : ¬ (gk : Int) = (I : Int))
      have HGRz := hide hgz
      clear hc2 hkl hmk hgz
      go_wp2_with fail
      go_roundw
      case rel => exact ⟨k + 1, by omega, by go_num, HGRz.out⟩
      case measure => simp [intOf]; omega
    · have hkn : k = no := by omega
      have hkI : ¬ (k : Int) < (no : Int) := by omega
      subst hkn
      have HGRz := hide hgz
      clear hgz
      go_wp2_with fail
      refine (bcross_any (HG9.out.gr HGRz.out) I).mono ?_
      rintro e w10 ⟨⟨v10, rfl, hown⟩, hg10⟩
      have hcn : crossK W H N (putF F I 255) I 4 = [] := crossK_none 4 (by
        cases e : opB N (putF F I 255) I
        · rfl
        · have := ((opB_iff _ _ _).1 e).2.2
          rw [Int.toNat_natCast] at this
          exact absurd (by simp [putF]) this)
      rw [hcn] at hown
      obtain ⟨a10, cp10, rfl, -⟩ := PlS.of_own (w := w10) hown
      have hgA := HGRz.out.trans hg10
      obtain ⟨c1, c2, c3, -, -, -⟩ := row_cells (row_gr HB9.out hgA)
      have m1 := cell_gr HM9.out hgA
      have HGA := hide hgA
      clear hown hg10 hcn hgA
      go_wp2_with fail
      refine (gedit_yes (HG9.out.gr HGA.out) I zi hIN (by omega) (by omega)).mono ?_
      rintro e w11 ⟨rfl, hgd, hk⟩
      rw [← HZ.out, put_back] at hgd
      have hil := (HI9.out.gr HGA.out).kp hk nO
      have hgr11 := hk.gr (hgr.trans HGA.out) (fun k hk => by rcases hk with e | e | e <;> omega)
      clear hk m1 c1 c2 c3
      go_wp2_with fail
      refine (told11_any _).mono ?_
      rintro e w12 ⟨rfl, hg12⟩
      replace hgd := hgd.gr hg12
      replace hil := hil.gr hg12
      replace hgr11 := hgr11.trans hg12
      go_wp2_with fail
      refine (bnodes_any hgd S).mono ?_
      rintro e w13 ⟨⟨v13, rfl, hown⟩, hg13⟩
      rw [HNL.out] at hown
      obtain ⟨a13, cp13, rfl, hpl⟩ := IlS.slot (w := w13) hown
      rw [HNN.out] at hpl
      rw [HNN.out]
      replace hil := hil.gr hg13
      replace hgr11 := hgr11.trans hg13
      clear hown hg13 hgd
      go_wp2_with fail
      refine (ints_same _ _ _ _ _ _ _ hpl.sli hil.sli (by omega)).mono ?_
      rintro e w14 ⟨rfl, hd14⟩
      go_wp2_with fail
      go_ret
      exact ⟨rfl, hgr11.trans hd14.gr⟩
end Go.Proofs.Ytanihjgpdfploaa
