/- BorderMates' walk: who crosses can be crossed to: it answers true at every input; nothing that was there is written. -/
import Derived.Test.YtanihjgpdfploaaBTold11
namespace Go.Proofs.Ytanihjgpdfploaa
open Go.RowKit
set_option maxRecDepth 20000

theorem cross_at {W H : Int} {N : Nat} {f : Nat → Int} {c : Int} {k : Nat} (hk : k < (crossK W H N f c 4).length) :
    ∃ s : Nat, s ≤ 3 ∧ (sidesK W H N f c 4)[k]? = some s ∧ crsB W H N f c s = true ∧ elP (crossK W H N f c 4) k = (overF W H c s, f (overF W H c s).toNat) := by
  have hk2 : k < (sidesK W H N f c 4).length := by simpa [crossK] using hk
  have e : (sidesK W H N f c 4)[k]? = some (sidesK W H N f c 4)[k] := List.getElem?_eq_getElem hk2
  have hm := List.getElem_mem hk2
  have hm2 := List.mem_filter.1 hm
  refine ⟨_, ?_, e, hm2.2, ?_⟩
  · have := List.mem_range.1 hm2.1
    omega
  · have q := elP_get? hk
    unfold crossK at q ⊢
    rw [List.getElem?_map, e] at q
    simpa [edgF] using q.symm
theorem sides_rise {W H : Int} {N : Nat} {f : Nat → Int} {c : Int} {k s t : Nat} (h1 : (sidesK W H N f c 4)[k]? = some s) (h2 : (sidesK W H N f c 4)[k + 1]? = some t) : s < t := by
  have hp : (sidesK W H N f c 4).Pairwise (· < ·) := List.pairwise_lt_range.filter _
  obtain ⟨a, rfl⟩ := List.getElem?_eq_some_iff.1 h1
  obtain ⟨b, rfl⟩ := List.getElem?_eq_some_iff.1 h2
  exact List.pairwise_iff_getElem.1 hp k (k + 1) a b (by omega)
theorem side_is {W H : Int} {N : Nat} {f : Nat → Int} {c : Int} {s : Nat} (h3 : s ≤ 3) (h : crsB W H N f c s = true) : sideF W H c (overF W H c s) = s := by
  obtain ⟨e, k, q, n, s0, s3⟩ := over_is (crs_over h)
  rw [e]
  exact sideF_step k s0 (by omega) (by have := crs_over h; omega)
/-- all that is said of who crosses over a side -/
theorem mate_is {W H : Int} {N : Nat} {f : Nat → Int} {c : Nat} {s : Nat} (h : crsB W H N f c s = true) :
    ∃ n : Nat, overF W H c s = n ∧ n < N ∧ f n ≠ 255 ∧ f c ≠ 255 ∧ secF W H n ≠ secF W H c ∧ ((c : Int), f c) ∈ crossK W H N f n 4 := by
  have h0 := crs_over h
  obtain ⟨e, k, q, ne, s0, s3⟩ := over_is h0
  obtain ⟨hc, hn⟩ := Bool.and_eq_true_iff.1 h
  obtain ⟨n0, n1, n2⟩ := (opB_iff _ _ _).1 hn
  obtain ⟨-, c1, c2⟩ := (opB_iff _ _ _).1 hc
  obtain ⟨n, hn'⟩ : ∃ n : Nat, overF W H c s = n := ⟨(overF W H c s).toNat, by omega⟩
  obtain ⟨ob, b0, b3⟩ := over_back h0
  rw [hn'] at n1 n2 ob hn
  rw [Int.toNat_natCast] at n2 c2
  refine ⟨n, hn', by omega, n2, c2, ?_, ?_⟩
  · rw [← hn', e, secF_yes q, secF_yes k]
    exact ne
  · obtain ⟨b, hb⟩ : ∃ b : Nat, backF s = b := ⟨(backF s).toNat, by omega⟩
    rw [hb] at ob b0 b3
    unfold crossK
    refine List.mem_map.2 ⟨b, List.mem_filter.2 ⟨List.mem_range.2 (by omega), ?_⟩, ?_⟩
    · unfold crsB
      rw [ob, hn, hc]
      rfl
    · unfold edgF
      rw [ob, Int.toNat_natCast]
/-- whether one of the first j is e -/
def seenK (M : List (Int × Int)) (e : Int × Int) : Nat → Bool
  | 0 => false
  | j + 1 => seenK M e j || decide (elP M j = e)
theorem seen_mem {M : List (Int × Int)} {e : Int × Int} (h : e ∈ M) : seenK M e M.length = true := by
  obtain ⟨i, hi⟩ := List.mem_iff_getElem?.1 h
  have hl := (List.getElem?_eq_some_iff.1 hi).1
  have he : elP M i = e := by simp [elP, hi]
  have : ∀ j, i < j → seenK M e j = true := by
    intro j
    induction j with
    | zero => intro q; omega
    | succ j ih =>
      intro q
      unfold seenK
      by_cases g : i = j
      · subst g; simp [he]
      · rw [ih (by omega)]; rfl
  exact this _ hl

set_option maxHeartbeats 8000000 in
theorem borderMates_any (x y : Int) (a : Option Addr) (n cap : Nat) (f : Nat → Int) (cl : Int) (w : World) (h : Sl w a n f) (hn : n ≤ maxLen) :
    Calls Try.prog 5 #[.int .i64 x, .int .i64 y, .slice a n cap, .int .i64 cl] w fun e w' => e = .returned (.bool true) ∧ Gr w w' := by
  go_enter Try.func5, Try.ntmps5
  go_wp2_with fail
  refine (made_any x y a n cap f w h hn).mono ?_
  rintro e w1 ⟨⟨gm, cm, N, rfl, hN, hown⟩, hg1⟩
  have hm := gmade_may h.byte hN
  obtain ⟨N1, N2⟩ := gmade_n hN
  generalize withinF x 1 40 = W at *
  generalize withinF y 1 40 = H at *
  generalize madeF n f = F at *
  have hBm := tri_alloc w1 (.int .i64 W) (.int .i64 H) (.slice (some ⟨gm, 0, none⟩) N cm) 24
  have hgr : Gr w (w1.alloc (.cells #[.int .i64 W, .int .i64 H, .slice (some ⟨gm, 0, none⟩) N cm] 24)) := hg1.alloc _
  have hsl := hown.sl.2.2.2.2.gr ((Gr.refl w1).alloc (.cells #[.int .i64 W, .int .i64 H, .slice (some ⟨gm, 0, none⟩) N cm] 24))
  obtain ⟨q1, q2, q3, q4, -⟩ := hown.sl
  have HN := hide hN
  have HM := hide hm
  clear hown hg1 h hn hN hm
  go_wp2_with fail
  generalize (w1.alloc (.cells #[.int .i64 W, .int .i64 H, .slice (some ⟨gm, 0, none⟩) N cm] 24)) = u1 at *
  generalize w1.heap.size = B0 at *
  have z0 := hBm.lt
  have zs := hgr.size
  have zg : gm < u1.heap.size := by
    obtain ⟨b', o', e', hb', -⟩ := hsl.at (by omega)
    cases e'
    exact hb'
  refine (gnew_yes W H _ N cm F 0 u1 hsl HM.out (by omega)).mono ?_
  rintro e w3 ⟨⟨p, c, v, cc, rfl, hgd, hp, hc, hv⟩, hg3⟩
  replace hgr := hgr.trans hg3
  replace hBm := row_gr hBm hg3
  replace hsl := hsl.gr hg3
  have hpw : w.heap.size ≤ p ∧ w.heap.size ≤ c ∧ w.heap.size ≤ v ∧ B0 ≠ p ∧ B0 ≠ c ∧ B0 ≠ v ∧ gm ≠ p ∧ gm ≠ c ∧ gm ≠ v := by omega
  obtain ⟨c1, c2, c3, -, -, -⟩ := row_cells hBm
  have HG := hide hgd
  obtain ⟨hmb, hNm, -, -, b3, b4, b5⟩ := hgd.bd
  have HNm := hide hNm
  clear hg3 hgd hp hc hv z0 zs zg hNm
  obtain ⟨I, hI⟩ : ∃ I : Nat, I = (withinF cl 0 ((N : Int) - 1)).toNat := ⟨_, rfl⟩
  have lb := within_bd cl 0 ((N : Int) - 1) (by omega)
  have hI2 : withinF cl 0 ((N : Int) - 1) = I := by omega
  have hIN : I < N := by omega
  have wN : IntKind.i64.wrap ((N : Int) - 1) = (N : Int) - 1 := wrapI (by omega)
  have HI := hide hI2
  clear lb hI hI2
  go_wp2_with fail
  refine (within_st _ _ _ _ (by omega) (by omega) (by omega)).mono ?_
  rintro e w4 ⟨rfl, hw4⟩
  subst hw4
  rw [HI.out]
  go_wp2_with fail
  refine (bcross_any HG.out I).mono ?_
  rintro e w5 ⟨⟨v5, rfl, hown⟩, hg5⟩
  obtain ⟨a5, cp5, rfl, hpl⟩ := PlS.of_own (w := w5) hown
  replace hgr := hgr.trans hg5
  replace hBm := row_gr hBm hg5
  replace hsl := hsl.gr hg5
  replace HG := hide (HG.out.gr hg5)
  clear hown hg5 c1 c2 c3
  have L2 : (crossK W H N F I 4).length ≤ 2 := by
    have := sides_two W H N F I
    simpa [crossK] using this
  obtain ⟨L, hL⟩ : ∃ L, crossK W H N F I 4 = L := ⟨_, rfl⟩
  obtain ⟨nl, hnl⟩ : ∃ nl, L.length = nl := ⟨_, rfl⟩
  rw [hL] at hpl L2 ⊢
  rw [hnl] at hpl L2 ⊢
  have HL := hide hL
  have HNL := hide hnl
  have HP := hide hpl
  have HG0 := hide HG.out
  have HB0 := hide hBm
  have HS0 := hide hsl
  clear hL hnl hpl hBm hsl HG
  go_wp2_with fail
  go_loopw [13] (fun i z => ∃ k : Nat, k ≤ nl ∧ i = .int .i64 k ∧ Gr w5 z) (fun i _ => nl - (intOf i).toNat)
  case atStart => exact ⟨0, Nat.zero_le _, rfl, Gr.refl _⟩
  case round =>
    obtain ⟨k, hk, rfl, hgz⟩ := hrel
    by_cases hlt : k < nl
    · have hkI : (k : Int) < (nl : Int) := by omega
      have hk0 : 0 ≤ (k : Int) := by omega
      obtain ⟨s, s3, hs1, hs2, hs3⟩ := cross_at (W := W) (H := H) (N := N) (f := F) (c := I) (k := k) (by rw [HL.out, HNL.out]; exact hlt)
      obtain ⟨nn, e1, e2, e3, e4, e5, e6⟩ := mate_is hs2
      have e7 := side_is s3 hs2
      rw [HL.out, e1, Int.toNat_natCast] at hs3
      rw [e1] at e7
      have hS := HS0.out.gr hgz
      have bn := hS.byte nn e2
      have bI := hS.byte I hIN
      obtain ⟨gm', o', eg, -, hcm⟩ := hS.at (by omega)
      cases eg
      have m1 := hcm nn e2
      have m2 := hcm I hIN
      rw [Nat.zero_add] at m1 m2
      have HPz := hide (HP.out.gr hgz)
      obtain ⟨bl, ol, rfl, hbl, hcl⟩ := HPz.out.at (by omega)
      obtain ⟨l1, l2⟩ := hcl k hlt
      rw [hs3] at l1 l2
      obtain ⟨c1, c2, c3, -, -, -⟩ := row_cells (row_gr HB0.out hgz)
      have HCL := hide hcl
      have HSA := hide (fun u => sector_any W H nn u)
      have HSB := hide (fun u => sector_any W H I u)
      have HSD := hide (fun u => side_any W H I nn u)
      rw [e7] at HSD
      have hAB : (secF W H nn == secF W H I) = false := by simpa using e5
      generalize secF W H nn = A at *
      generalize secF W H I = B at *
      have HE6 := hide e6
      have HS1 := hide hs1
      have HS7 := hide e7
      have HS3 := hide hs3
      have nn0 : 0 ≤ (nn : Int) := by omega
      have nn1 : (nn : Int) < (N : Int) := by omega
      have I0 : 0 ≤ (I : Int) := by omega
      have I1 : (I : Int) < (N : Int) := by omega
      have s0 : 0 ≤ (s : Int) := by omega
      have s4 : (s : Int) ≤ 3 := by omega
      have nc : nn < cm := by omega
      have ic : I < cm := by omega
      clear hs1 hs2 hs3 e1 e5 e6 e7 hcl hcm hS
      obtain ⟨zn, hzn⟩ : ∃ zn, F nn = zn := ⟨_, rfl⟩
      obtain ⟨zi, hzi⟩ : ∃ zi, F I = zi := ⟨_, rfl⟩
      rw [hzn] at bn m1 l2 e3
      rw [hzi] at bI m2 e4 HE6
      have wn : IntKind.i64.wrap zn = zn := wrapI (by omega)
      have wi : IntKind.i64.wrap zi = zi := wrapI (by omega)
      have x3 : (zn == 255) = false := by simpa using e3
      have x4 : (zi == 255) = false := by simpa using e4
      obtain ⟨bn1, bn2⟩ := bn
      obtain ⟨bI1, bI2⟩ := bI
      clear hzn hzi e3 e4
      have HGz := hide (HG0.out.gr hgz)
      have HGR := hide hgz
      clear hgz
      go_wp2_with fail
      go_quiet (first | (go_at_call_of 26 nn; refine Dr.quiet (HSA.out _)) | (go_at_call 26; refine Dr.quiet (HSB.out _)) | (go_at_call 27; refine Dr.quiet (HSD.out _)))
      go_wp2_with fail
      refine (bcross_any (HGz.out.gr ((Gr.refl _).drewN _)) nn).mono ?_
      rintro e w6 ⟨⟨v6, rfl, hown⟩, hg6⟩
      replace hg6 := ((Gr.refl wr).drewN _).trans hg6
      obtain ⟨a6, cp6, rfl, hpm⟩ := PlS.of_own (w := w6) hown
      have MM := crossK_len W H N F nn 4
      obtain ⟨M, hM⟩ : ∃ M, crossK W H N F nn 4 = M := ⟨_, rfl⟩
      rw [hM] at hpm MM HE6 ⊢
      have hseen := seen_mem HE6.out
      obtain ⟨nm, hnm⟩ : ∃ nm, M.length = nm := ⟨_, rfl⟩
      rw [hnm] at hpm MM hseen ⊢
      have HSEEN := hide hseen
      have HPM := hide hpm
      have HGR6 := hide (HGR.out.trans hg6)
      have HGX := hide hg6
      replace m2 := cell_gr m2 hg6
      replace l1 := cell_gr l1 hg6
      replace c1 := cell_gr c1 hg6
      replace c2 := cell_gr c2 hg6
      replace c3 := cell_gr c3 hg6
      have HC1 := hide c1
      have HC2 := hide c2
      have HC3 := hide c3
      have HL1 := hide l1
      have HM2 := hide m2
      clear m1 l1 l2 c1 c2 c3 m2 hown hg6 hM hnm hpm hseen HSA HSB
      go_wp2_with fail
      go_loopw [15, 17] (fun b i z => ∃ j : Nat, j ≤ nm ∧ i = .int .i64 j ∧ b = .bool (seenK M ((I : Int), zi) j) ∧ Gr w6 z) (fun _ i _ => nm - (intOf i).toNat)
      case atStart => exact ⟨0, Nat.zero_le _, rfl, rfl, Gr.refl _⟩
      case round =>
        obtain ⟨j, hj, rfl, rfl, hgz⟩ := hrel
        by_cases hltj : j < nm
        · have hjI : (j : Int) < (nm : Int) := by omega
          have hj0 : 0 ≤ (j : Int) := by omega
          obtain ⟨bo, oo, rfl, hbo, hco⟩ := HPM.out.at (by omega)
          have o1 := cell_gr (hco j hltj).1 hgz
          have o2 := cell_gr (hco j hltj).2 hgz
          have c3 := cell_gr HC3.out hgz
          have m2 := cell_gr HM2.out hgz
          obtain ⟨t, ht⟩ : ∃ t, (elP M j).1 = t := ⟨_, rfl⟩
          obtain ⟨y2, hy2⟩ : ∃ y2, (elP M j).2 = y2 := ⟨_, rfl⟩
          rw [ht] at o1
          rw [hy2] at o2
          have HEL : Hid (elP M j = (t, y2)) := hide (by rw [← ht, ← hy2])
          have HGRz := hide hgz
          clear hco ht hy2 hgz
          cases hb : seenK M ((I : Int), zi) j
          · by_cases ti : t = I
            · subst ti
              by_cases yz : y2 = zi
              · subst yz
                have HB : Hid (seenK M ((I : Int), y2) (j + 1) = true) := hide (by unfold seenK; rw [HEL.out]; simp)
                clear hb
                go_wp2_with fail
                go_quiet (fail)
                go_wp2_with fail
                go_roundw
                case rel => exact ⟨j + 1, by omega, by go_num, by rw [HB.out], HGRz.out.drewN _⟩
                case measure => simp [intOf]; omega
              · have yz2 : (y2 == zi) = false := by simpa using yz
                have HB : Hid (seenK M ((I : Int), zi) (j + 1) = false) := hide (by unfold seenK; rw [HEL.out, hb]; simp [yz])
                clear hb yz
                go_wp2_with fail
                go_quiet (fail)
                go_wp2_with fail
                go_roundw
                case rel => exact ⟨j + 1, by omega, by go_num, by rw [HB.out], HGRz.out.drewN _⟩
                case measure => simp [intOf]; omega
            · have ti2 : (t == (I : Int)) = false := by simpa using ti
              have HB : Hid (seenK M ((I : Int), zi) (j + 1) = false) := hide (by unfold seenK; rw [HEL.out, hb]; simp [ti])
              clear hb ti
              go_wp2_with fail
              go_quiet (fail)
              go_wp2_with fail
              go_roundw
              case rel => exact ⟨j + 1, by omega, by go_num, by rw [HB.out], HGRz.out.drewN _⟩
              case measure => simp [intOf]; omega
          · have HB : Hid (seenK M ((I : Int), zi) (j + 1) = true) := hide (by unfold seenK; rw [hb]; rfl)
            clear hb
            go_wp2_with fail
            go_quiet (fail)
            go_wp2_with fail
            go_roundw
            case rel => exact ⟨j + 1, by omega, by go_num, by rw [HB.out], HGRz.out.drewN _⟩
            case measure => simp [intOf]; omega
        · have hjn : j = nm := by omega
          have hjI : ¬ (j : Int) < (nm : Int) := by omega
          subst hjn
          rw [HSEEN.out]
          have c1 := cell_gr HC1.out hgz
          have c2 := cell_gr HC2.out hgz
          have HGRz := hide hgz
          by_cases k0 : k = 0
          · subst k0
            clear hgz
            go_wp2_with fail
            go_quiet (fail)
            go_wp2_with fail
            go_roundw
            case rel => exact ⟨0 + 1, by omega, by go_num, (HGR6.out.trans HGRz.out).drewN _⟩
            case measure => simp [intOf]; omega
          · obtain ⟨k', rfl⟩ : ∃ k', k = k' + 1 := ⟨k - 1, by omega⟩
            obtain ⟨s', s3', hs1', hs2', hs3'⟩ := cross_at (W := W) (H := H) (N := N) (f := F) (c := I) (k := k') (by rw [HL.out, HNL.out]; omega)
            have lt := sides_rise hs1' HS1.out
            obtain ⟨nn', e1', -, -, -, -, -⟩ := mate_is hs2'
            have e7' := side_is s3' hs2'
            rw [HL.out, e1', Int.toNat_natCast] at hs3'
            rw [e1'] at e7'
            have l0 := (HCL.out k' (by omega)).1
            rw [hs3'] at l0
            replace l0 := cell_gr (cell_gr l0 (HGX.out)) hgz
            have HSE := hide (fun u => side_any W H I nn' u)
            rw [e7'] at HSE
            have wk : IntKind.i64.wrap (((k' + 1 : Nat) : Int) - 1) = (k' : Int) := by rw [wrapI (by omega)]; omega
            have k1 : 0 < ((k' + 1 : Nat) : Int) := by omega
            have k2 : (k' : Int) < (nl : Int) := by omega
            have k3 : 0 ≤ (k' : Int) := by omega
            have lt2 : (s' : Int) < (s : Int) := by omega
            clear hgz hs1' hs2' hs3' e1' e7' lt
            go_wp2_with fail
            go_quiet (first | (go_at_call_of 27 nn'; refine Dr.quiet (HSE.out _)) | (go_at_call 27; refine Dr.quiet (HSD.out _)))
            go_wp2_with fail
            go_roundw
            case rel => exact ⟨k' + 1 + 1, by omega, by go_num, (HGR6.out.trans HGRz.out).drewN _⟩
            case measure => simp [intOf]; omega
    · have hkn : k = nl := by omega
      have hkI : ¬ (k : Int) < (nl : Int) := by omega
      have hl2 : (k : Int) ≤ 2 := by omega
      subst hkn
      go_wp2_with fail
      refine (told11_any _).mono ?_
      rintro e w9 ⟨rfl, hg9⟩
      go_wp2_with fail
      go_ret
      exact ⟨rfl, (hgr.trans hgz).trans hg9⟩
end Go.Proofs.Ytanihjgpdfploaa
