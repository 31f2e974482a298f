/- The document's Walk. No condition. -/
import Derived.Test.YtlnbolaaaahoaaaFWalk10
import Derived.Test.YtlnbolaaaahoaaaBT
namespace Go.Proofs.Ytlnbolaaaahoaaa
open Go.RowKit
set_option maxRecDepth 20000

set_option maxHeartbeats 2000000 in
theorem rwalk_no (W H : Int) (al : Option Addr) (n cap : Nat) (f : Nat → Int) (ad : Option Addr) (nd cd : Nat) (ae : Option Addr) (ne ce : Nat) (l : Int) (w : World) (h : Sl w al n f) (hok : walkOk W H n f nd ne l = false) :
    Calls Try.prog 21 #[.agg #[.int .i64 W, .int .i64 H, .slice al n cap], .agg #[.slice ad nd cd, .slice ae ne ce], .int .i64 l] w fun e w' => e = .returned (.tuple #[.slice none 0 0, .int .i64 5]) ∧ Gr w w' := by
  obtain ⟨z, hz, hg, c1, c2, c3, d1, d2⟩ := two_in w W H (.slice al n cap) (.slice ad nd cd) (.slice ae ne ce)
  have HC : Hid (Calls Try.prog 27 #[.agg #[.int .i64 W, .int .i64 H, .slice al n cap]] z fun e w' => e = .returned (.bool (mayTB W H n f)) ∧ Gr z w') := hide (rmayT_any _ _ _ _ _ f _ (h.gr hg))
  unfold walkOk fitF at hok
  cases hm : mayTB W H n f
  · rw [hm] at HC
    clear hok
    go_enter Try.func21, Try.ntmps21
    go_wp2_with fail
    rw [← hz]
    refine HC.out.mono ?_
    rintro e w1 ⟨rfl, hg1⟩
    replace c3 := cell_gr c3 hg1
    go_wp2_with fail
    go_ret2
    exact ⟨rfl, hg.trans hg1⟩
  · rw [hm] at HC hok
    have hn2 := (mayTB_n hm).2.1
    have hn1 := (mayTB_n hm).1
    simp only [Bool.true_and, Bool.and_eq_false_iff, decide_eq_false_iff_not] at hok
    clear hm
    by_cases hnd : nd = n
    · subst hnd
      by_cases hne : ne = nd
      · subst hne
        have hw1 : IntKind.i64.wrap ((ne : Int) - 1) = (ne : Int) - 1 := wrapI (by omega)
        have hl : l < 0 ∨ (ne : Int) - 1 < l := by omega
        clear hok
        go_enter Try.func21, Try.ntmps21
        go_wp2_with fail
        rw [← hz]
        refine HC.out.mono ?_
        rintro e w1 ⟨rfl, hg1⟩
        replace c3 := cell_gr c3 hg1
        replace d1 := cell_gr d1 hg1
        replace d2 := cell_gr d2 hg1
        go_wp2_with fail
        refine (in_no _ _ _ _ hl).mono ?_
        rintro e w2 ⟨rfl, q, rfl⟩
        go_wp2_with fail
        go_ret2
        exact ⟨rfl, (hg.trans hg1).drewN _⟩
      · have e2 : ((ne : Int) != (nd : Int)) = true := by simp; omega
        clear hok hne
        go_enter Try.func21, Try.ntmps21
        go_wp2_with fail
        rw [← hz]
        refine HC.out.mono ?_
        rintro e w1 ⟨rfl, hg1⟩
        replace c3 := cell_gr c3 hg1
        replace d1 := cell_gr d1 hg1
        replace d2 := cell_gr d2 hg1
        go_wp2_with fail
        go_ret2
        exact ⟨rfl, hg.trans hg1⟩
    · have e2 : ((nd : Int) != (n : Int)) = true := by simp; omega
      clear hok hnd
      go_enter Try.func21, Try.ntmps21
      go_wp2_with fail
      rw [← hz]
      refine HC.out.mono ?_
      rintro e w1 ⟨rfl, hg1⟩
      replace c3 := cell_gr c3 hg1
      replace d1 := cell_gr d1 hg1
      replace d2 := cell_gr d2 hg1
      go_wp2_with fail
      go_ret2
      exact ⟨rfl, hg.trans hg1⟩

set_option maxHeartbeats 4000000 in
theorem rwalk_yes {W H : Int} {al : Option Addr} {n cap : Nat} {f : Nat → Int} {ad : Option Addr} {cd : Nat} {ae : Option Addr} {ce l : Nat} {D : Nat → Int} {w : World} (h : Sl w al n f) (hm : mayTB W H n f = true) (hl : l < n) (hD : SlI w ae n D) :
    Calls Try.prog 21 #[.agg #[.int .i64 W, .int .i64 H, .slice al n cap], .agg #[.slice ad n cd, .slice ae n ce], .int .i64 l] w fun e w' => (∃ j a c, e = .returned (.tuple #[.slice a (j + 1) c, .int .i64 (D (posF (nearF W H n f) D l j))]) ∧ Went (nearF W H n f) D n l j ∧ SlI w' a (j + 1) (fun i => (posF (nearF W H n f) D l i : Int)) ∧ a ≠ none) ∧ Gr w w' := by
  obtain ⟨i0, hi, hz0, hz1, hz2⟩ := info_parts info_int
  obtain ⟨z, hz, hg, c1, c2, c3, d1, d2⟩ := two_in w W H (.slice al n cap) (.slice ad n cd) (.slice ae n ce)
  have hn2 := (mayTB_n hm).2.1
  have hgph := gph_of hm h.byte
  have HC : Hid (Calls Try.prog 27 #[.agg #[.int .i64 W, .int .i64 H, .slice al n cap]] z fun e w' => e = .returned (.bool true) ∧ Gr z w') := hide ((rmayT_any _ _ _ _ _ f _ (h.gr hg)).mono (fun e w' ⟨a, b⟩ => ⟨by rw [a, hm], b⟩))
  have hw1 : IntKind.i64.wrap ((n : Int) - 1) = (n : Int) - 1 := wrapI (by omega)
  go_enter Try.func21, Try.ntmps21
  go_wp2_with fail
  rw [← hz]
  clear hz
  obtain ⟨BT, hBT⟩ : ∃ BT, BT = w.heap.size := ⟨_, rfl⟩
  rw [← hBT] at c1 c2 c3 d1 d2 ⊢
  clear hBT
  refine HC.out.mono ?_
  rintro e w1 ⟨rfl, hg1⟩
  replace c1 := cell_gr c1 hg1
  replace c2 := cell_gr c2 hg1
  replace c3 := cell_gr c3 hg1
  replace d1 := cell_gr d1 hg1
  replace d2 := cell_gr d2 hg1
  have hgr := hg.trans hg1
  replace h := h.gr hgr
  replace hD := hD.gr hgr
  clear HC hg hg1
  go_wp2_with fail
  refine (in_yes _ _ _ _ (by omega) (by omega)).mono ?_
  rintro e w1' ⟨rfl, qd, rfl⟩
  have hqd : Gr w1 (w1.drewN qd) := (Gr.refl w1).drewN qd
  replace c1 := cell_gr c1 hqd
  replace c2 := cell_gr c2 hqd
  replace c3 := cell_gr c3 hqd
  replace d2 := cell_gr d2 hqd
  replace hgr := hgr.trans hqd
  replace h := h.gr hqd
  replace hD := hD.gr hqd
  generalize w1.drewN qd = w1 at *
  clear hqd d1 hw1
  have ho := own_one w1 (l : Int)
  have hga : Gr w1 (w1.alloc (.cells #[.int .i64 (l : Int)] 3)) := (Gr.refl w1).alloc _
  go_upto_region 4 with fail
  generalize (w1.alloc (.cells #[.int .i64 (l : Int)] 3)) = w2 at *
  obtain ⟨g1, hg1e⟩ : ∃ g1, g1 = w1.heap.size := ⟨_, rfl⟩
  rw [← hg1e] at ho ⊢
  have HSZ : Hid (g1 = w1.heap.size) := hide hg1e
  clear hg1e
  obtain ⟨P, hP⟩ : ∃ P, P = posF (nearF W H n f) D l := ⟨_, rfl⟩
  have HPE := hide hP
  have hown0 : w2.ownsRow g1 3 1 (.slice (some ⟨g1, 0, none⟩) (0 + 1) 1) (0 + 1) (cel .i64 (0 + 1) (fun i => (P i : Int))) := by
    have e : cel .i64 (0 + 1) (fun i => (P i : Int)) = cel .i64 1 (fun _ => (l : Int)) := cel_congr fun i hi => by
      obtain rfl : i = 0 := by omega
      rw [hP]; rfl
    rw [e]
    exact ho
  have HHG := hide hgph
  have HLN := hide hl
  clear ho hgph
  clear hP
  go_loopw [8] (fun wv u => ∃ (j : Nat) (a1 : Option Addr) (cc : Nat), wv = .slice a1 (j + 1) cc ∧ j + 1 ≤ n ∧ Hid (∀ i, i < j → 0 ≤ hopF (nearF W H n f) D (P i)) ∧ u.ownsRow g1 3 1 (.slice a1 (j + 1) cc) (j + 1) (cel .i64 (j + 1) (fun i => (P i : Int))) ∧ Gr w1 u) (fun v _ => n - slN v)
  case atStart => exact ⟨0, some ⟨g1, 0, none⟩, 1, rfl, by omega, hide (fun i hi => absurd hi (Nat.not_lt_zero _)), hown0, hga⟩
  case round =>
    obtain ⟨j, a1, cc, rfl, hj, HON, hown, hgu⟩ := hrel
    generalize wr = w3 at *
    clear hown0 hga
    have hpn : P j < n := by
      have := pos_lt HHG.out HLN.out j (by have := HON.out; rw [HPE.out] at this; exact this)
      rw [HPE.out]
      exact this
    have HR : Hid (SlI w3 a1 (j + 1) (fun i => (posF (nearF W H n f) D l i : Int)) ∧ a1 ≠ none ∧ j + 1 ≤ cc ∧ cc ≤ maxLen) := hide (by have r := own_res hown; rw [HPE.out] at r; exact r)
    obtain ⟨b3, o3, rfl, hb3, hcell3⟩ := (own_res hown).1.at (by omega)
    have x3 := hcell3 j (by omega)
    obtain ⟨p, hp⟩ : ∃ p, p = P j := ⟨_, rfl⟩
    rw [← hp] at hpn x3
    have HPJ := hide hp
    clear hp
    have k1 := cell_gr c1 hgu
    have k2 := cell_gr c2 hgu
    have k3 := cell_gr c3 hgu
    have k4 := cell_gr d2 hgu
    obtain ⟨b2, o2, rfl, hb2, hcell⟩ := hD.at (by omega)
    have x1 := cell_gr (hcell p hpn) hgu
    obtain ⟨dp, hdp⟩ : ∃ dp, dp = D p := ⟨_, rfl⟩
    rw [← hdp] at x1
    have HNX : Hid (hopF (nearF W H n f) D p = if 0 ≤ dp ∧ dp ≤ 3 then stepF W H (p : Int) dp else -1) := hide (by
      have hlc : isLocB W H n f (p : Int) = true := (isLocB_iff _ _ _ _ _).2 ⟨hm, by omega, by omega⟩
      rw [hdp]; unfold hopF; simp only [nearF, hlc, if_true])
    have HDP : Hid (dp = D (P j)) := hide (by rw [hdp, HPJ.out])
    have p0 : (0 : Int) ≤ (p : Int) := by omega
    have pn : (p : Int) < (n : Int) := by omega
    have hwj : IntKind.i64.wrap ((j : Int) + 1 - 1) = (j : Int) := by
      rw [show (j : Int) + 1 - 1 = (j : Int) by omega]
      exact wrapI (by omega)
    clear hcell hdp hcell3
    by_cases hjn : j + 1 < n
    · have hji : (j : Int) + 1 < (n : Int) := by omega
      go_wp2_with fail
      by_cases hd : 0 ≤ dp ∧ dp ≤ 3
      · rw [if_pos hd] at HNX
        refine (in_yes _ _ _ _ hd.1 hd.2).mono ?_
        rintro e w4 ⟨rfl, hd4⟩
        have hg4 := hd4.gr
        replace k1 := cell_gr k1 hg4
        replace k2 := cell_gr k2 hg4
        replace k3 := cell_gr k3 hg4
        replace k4 := cell_gr k4 hg4
        replace x1 := cell_gr x1 hg4
        replace x3 := cell_gr x3 hg4
        clear hd hd4
        go_wp2_with fail
        go_region_held3 (fun u => u.cell? ⟨BT, 0, none⟩ = some (.int .i64 W) ∧ u.cell? ⟨BT, 1, none⟩ = some (.int .i64 H) ∧ u.cell? ⟨BT + 1, 1, none⟩ = some (.slice (some ⟨b2, o2, none⟩) n ce) ∧ u.cell? ⟨b2, o2 + p, none⟩ = some (.int .i64 dp))
          (first | exact ⟨k1, k2, k4, x1⟩ | exact ⟨cell_gr k1 hg9, cell_gr k2 hg9, cell_gr k4 hg9, cell_gr x1 hg9⟩)
          (first | (go_at_call 24; refine (rstep_any W H (p : Int) dp _).mono ?_; rintro e w5 ⟨rfl, hd5⟩; have hg9 : Gr w4 w5 := ((Gr.refl w4).drew).trans hd5.gr))
        rw [← HNX.out]
        replace k4 := cell_gr k4 hg9
        replace x1 := cell_gr x1 hg9
        replace x3 := cell_gr x3 hg9
        replace hg9 := hg4.trans hg9
        clear hd5 k1 k2 k3 hg4
        by_cases hz : hopF (nearF W H n f) D p < 0
        · have HW : Hid (Went (nearF W H n f) D n l j) := hide ⟨by have := HON.out; rw [HPE.out] at this; exact this, .inr (by rw [HPJ.out, HPE.out] at hz; exact hz), hj⟩
          generalize hopF (nearF W H n f) D p = z at *
          go_wp2_with fail
          go_quiet (fail)
          go_wp2_with fail
          go_ret2
          exact ⟨⟨j, some ⟨b3, o3, none⟩, cc, by have e := HDP.out; rw [HPE.out] at e; rw [← e]; first | done | rfl, HW.out, (HR.out.1.gr hg9).gr (Gr.drewN (Gr.refl w5) _), HR.out.2.1⟩, ((hgr.trans hgu).trans hg9).drewN _⟩
        · have hq : hopF (nearF W H n f) D p = (P (j + 1) : Int) := by
            have h1 := pos_step (nb := nearF W H n f) (D := D) (c := l) (j := j) (by rw [HPJ.out, HPE.out] at hz; omega)
            rw [HPJ.out, HPE.out]
            exact h1
          have HO2 : Hid (∀ i, i < j + 1 → 0 ≤ hopF (nearF W H n f) D (P i)) := hide (fun i hi => by
            rcases (by omega : i < j ∨ i = j) with k | rfl
            · exact HON.out i k
            · rw [← HPJ.out]; omega)
          rw [hq]
          clear hz hq HNX
          obtain ⟨q, hqe⟩ : ∃ q, q = P (j + 1) := ⟨_, rfl⟩
          have HQ := hide hqe
          rw [← hqe]
          clear hqe
          have q0 : ¬ (q : Int) < 0 := by omega
          have HO := hide (own_gr hown hg9)
          have HG := hide (hgu.trans hg9)
          have HG1 : Hid (g1 ≤ w5.heap.size) := hide (by have := HSZ.out; have := Gr.size HG.out; omega)
          clear hown hgu hg9 k4 x1 x3
          go_wp2_with (at_builtin; refine wpList_append_own _ rfl _ _ 25 rfl g1 3 i0 (.int .i64 0) 1 8 Try.underlying25 hi hz0 hz1 hz2 rfl (by decide) _ _ _ rfl (HO.out.alloc _) ⟨w5.heap.size, 0, none⟩ 1 1 [.int .i64 (q : Int)] rfl rfl (alloc_one _ _ _) (by simp [Value.oneCell']) (by unfold maxLen; omega) (by omega) (by have := HG1.out; simp only [World.size_alloc]; omega) ?_; intro v' w6 hown' hgrow hnil)
          obtain ⟨a2, c2', rfl⟩ := own_sliceI hown'
          go_roundw
          case rel => exact ⟨j + 1, a2, c2', rfl, hjn, HO2, by rw [cel_succ, ← HQ.out]; exact hown', Gr.grown (HG.out.alloc _) hgrow (fun q e => by have := (HO.out.lt q e).1; have := HSZ.out; omega)⟩
          case measure => simp [slN]; omega
      · have HW : Hid (Went (nearF W H n f) D n l j) := hide ⟨by have := HON.out; rw [HPE.out] at this; exact this, .inr (by have := HNX.out; rw [if_neg hd, HPJ.out, HPE.out] at this; omega), hj⟩
        refine (in_no _ _ _ _ (by omega)).mono ?_
        rintro e w4 ⟨rfl, hd4⟩
        have hg4 := hd4.gr
        replace k4 := cell_gr k4 hg4
        replace x1 := cell_gr x1 hg4
        replace x3 := cell_gr x3 hg4
        clear hd hd4 k1 k2 k3 HNX
        go_wp2_with fail
        go_quiet (fail)
        go_wp2_with fail
        go_ret2
        exact ⟨⟨j, some ⟨b3, o3, none⟩, cc, by have e := HDP.out; rw [HPE.out] at e; rw [← e]; first | done | rfl, HW.out, (HR.out.1.gr hg4).gr (Gr.drewN (Gr.refl w4) _), HR.out.2.1⟩, ((hgr.trans hgu).trans hg4).drewN _⟩
    · obtain rfl : n = j + 1 := by omega
      have HW : Hid (Went (nearF W H (j + 1) f) D (j + 1) l j) := hide ⟨by have := HON.out; rw [HPE.out] at this; exact this, .inl rfl, hj⟩
      clear HNX
      go_wp2_with fail
      go_quiet (fail)
      go_wp2_with fail
      go_ret2
      exact ⟨⟨j, some ⟨b3, o3, none⟩, cc, by have e := HDP.out; rw [HPE.out] at e; rw [← e]; first | done | rfl, HW.out, HR.out.1.gr (Gr.drewN (Gr.refl w3) _), HR.out.2.1⟩, (hgr.trans hgu).drewN _⟩
end Go.Proofs.Ytlnbolaaaahoaaa
