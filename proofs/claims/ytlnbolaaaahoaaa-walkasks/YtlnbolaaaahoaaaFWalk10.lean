/- steer.Walk: where one comes to by directions. No condition. -/
import Derived.Test.YtlnbolaaaahoaaaFField10
import Derived.Deep.CutRange
namespace Go.Proofs.Ytlnbolaaaahoaaa
open Go.RowKit
set_option maxRecDepth 20000

/-- a walk is told: the tile may be, the field has a distance and a direction for each local, and it is one -/
def fitF (W H : Int) (n : Nat) (f : Nat → Int) (nd ne : Nat) : Bool := mayTB W H n f && decide (nd = n) && decide (ne = n)
def walkOk (W H : Int) (n : Nat) (f : Nat → Int) (nd ne : Nat) (l : Int) : Bool := fitF W H n f nd ne && decide (0 ≤ l) && decide (l < (n : Int))
def slN : Value → Nat
  | .slice _ n _ => n
  | _ => 0
theorem nx_hop {W H : Int} {n : Nat} {f D : Nat → Int} (hm : mayTB W H n f = true) {c : Nat} (hc : c < n) : nxF (nearF W H n f) c (D c) = hopF (nearF W H n f) D c := by
  have hl : isLocB W H n f (c : Int) = true := (isLocB_iff _ _ _ _ _).2 ⟨hm, by omega, by omega⟩
  unfold nxF hopF
  by_cases h : 0 ≤ D c ∧ D c ≤ 3
  · rw [if_pos h, if_neg (by omega)]
  · rw [if_neg h]
    by_cases h4 : D c = 4
    · rw [if_pos h4]
    · rw [if_neg h4]
      simp only [nearF, hl, if_true]
      unfold stepF
      rw [if_pos (loc_cell hl), if_neg (by omega), if_neg (by omega), if_neg (by omega), if_neg (by omega), if_neg h4]
/-- the two boxes of a tile and a field -/
theorem two_in (w : World) (W H : Int) (x u v : Value) : ∃ z, z = (w.alloc (.cells #[.int .i64 W, .int .i64 H, x] 24)).alloc (.cells #[u, v] 33) ∧ Gr w z ∧ z.cell? ⟨w.heap.size, 0, none⟩ = some (.int .i64 W) ∧ z.cell? ⟨w.heap.size, 1, none⟩ = some (.int .i64 H) ∧ z.cell? ⟨w.heap.size, 2, none⟩ = some x
    ∧ z.cell? ⟨w.heap.size + 1, 0, none⟩ = some u ∧ z.cell? ⟨w.heap.size + 1, 1, none⟩ = some v := by
  obtain ⟨c1, c2, c3⟩ := tri_at w W H x
  have g1 : Gr w (w.alloc (.cells #[.int .i64 W, .int .i64 H, x] 24)) := (Gr.refl w).alloc _
  have hs := World.size_alloc w (.cells #[.int .i64 W, .int .i64 H, x] 24)
  generalize w.alloc (.cells #[.int .i64 W, .int .i64 H, x] 24) = w1 at *
  obtain ⟨d1, d2, -, -⟩ := pair_at (pair_alloc w1 u v 33)
  have g2 : Gr w1 (w1.alloc (.cells #[u, v] 33)) := (Gr.refl w1).alloc _
  rw [hs] at d1 d2
  exact ⟨_, rfl, g1.trans g2, cell_gr c1 g2, cell_gr c2 g2, cell_gr c3 g2, d1, d2⟩

set_option maxHeartbeats 1000000 in
theorem fits10_any (W H : Int) (al : Option Addr) (n cap : Nat) (f : Nat → Int) (ad : Option Addr) (nd cd : Nat) (ae : Option Addr) (ne ce : Nat) (w : World) (h : Sl w al n f) :
    Calls Try.prog 31 #[.agg #[.int .i64 W, .int .i64 H, .slice al n cap], .agg #[.slice ad nd cd, .slice ae ne ce]] w fun e w' => e = .returned (.bool (fitF W H n f nd ne)) ∧ Gr w w' := by
  obtain ⟨z, hz, hg, c1, c2, c3, d1, d2⟩ := two_in w W H (.slice al n cap) (.slice ad nd cd) (.slice ae ne ce)
  have HC : Hid (Calls Try.prog 40 #[.agg #[.int .i64 W, .int .i64 H, .slice al n cap]] z fun e w' => e = .returned (.bool (mayTB W H n f)) ∧ Gr z w') := hide (tmay_any _ _ _ _ _ f _ (h.gr hg))
  cases hm : mayTB W H n f
  · rw [hm] at HC
    go_enter Try.func31, Try.ntmps31
    go_wp2_with fail
    rw [← hz]
    refine HC.out.mono ?_
    rintro e w1 ⟨rfl, hg1⟩
    go_wp2_with fail
    go_ret
    exact ⟨ret_bool (by simp [fitF, hm]), hg.trans hg1⟩
  · rw [hm] at HC
    have HN := hide hm
    clear hm
    by_cases hnd : nd = n
    · subst hnd
      by_cases hne : ne = nd
      · subst hne
        go_enter Try.func31, Try.ntmps31
        go_wp2_with fail
        rw [← hz]
        refine HC.out.mono ?_
        rintro e w1 ⟨rfl, hg1⟩
        replace c3 := cell_gr c3 hg1
        replace d1 := cell_gr d1 hg1
        replace d2 := cell_gr d2 hg1
        go_wp2_with fail
        go_ret
        exact ⟨ret_bool (by simp [fitF, HN.out]), hg.trans hg1⟩
      · have e2 : ((ne : Int) == (nd : Int)) = false := by simp; omega
        have HE := hide hne
        clear hne
        go_enter Try.func31, Try.ntmps31
        go_wp2_with fail
        rw [← hz]
        refine HC.out.mono ?_
        rintro e w1 ⟨rfl, hg1⟩
        replace c3 := cell_gr c3 hg1
        replace d1 := cell_gr d1 hg1
        replace d2 := cell_gr d2 hg1
        go_wp2_with fail
        go_ret
        exact ⟨ret_bool (by simp [fitF, HE.out]), hg.trans hg1⟩
    · have e2 : ((nd : Int) == (n : Int)) = false := by simp; omega
      have HE := hide hnd
      clear hnd
      go_enter Try.func31, Try.ntmps31
      go_wp2_with fail
      rw [← hz]
      refine HC.out.mono ?_
      rintro e w1 ⟨rfl, hg1⟩
      replace c3 := cell_gr c3 hg1
      replace d1 := cell_gr d1 hg1
      go_wp2_with fail
      go_ret
      exact ⟨ret_bool (by simp [fitF, HE.out]), hg.trans hg1⟩

set_option maxHeartbeats 1000000 in
theorem walk_no (W H : Int) (al : Option Addr) (n cap : Nat) (f : Nat → Int) (ad : Option Addr) (nd cd : Nat) (ae : Option Addr) (ne ce : Nat) (l : Int) (w : World) (h : Sl w al n f) (hok : walkOk W H n f nd ne l = false) :
    Calls Try.prog 20 #[.agg #[.int .i64 W, .int .i64 H, .slice al n cap], .agg #[.slice ad nd cd, .slice ae ne ce], .int .i64 l] w fun e w' => e = .returned (.tuple #[.slice none 0 0, .int .i64 5]) ∧ Gr w w' := by
  obtain ⟨z, hz, hg, c1, c2, c3, d1, d2⟩ := two_in w W H (.slice al n cap) (.slice ad nd cd) (.slice ae ne ce)
  have HC : Hid (Calls Try.prog 31 #[.agg #[.int .i64 W, .int .i64 H, .slice al n cap], .agg #[.slice ad nd cd, .slice ae ne ce]] z fun e w' => e = .returned (.bool (fitF W H n f nd ne)) ∧ Gr z w') := hide (fits10_any W H al n cap f ad nd cd ae ne ce z (h.gr hg))
  unfold walkOk at hok
  cases hf : fitF W H n f nd ne
  · rw [hf] at HC
    clear hok
    go_enter Try.func20, Try.ntmps20
    go_wp2_with fail
    rw [← hz]
    refine HC.out.mono ?_
    rintro e w1 ⟨rfl, hg1⟩
    replace c3 := cell_gr c3 hg1
    go_wp2_with fail
    go_ret2
    exact ⟨rfl, hg.trans hg1⟩
  · rw [hf] at HC hok
    simp only [Bool.true_and, Bool.and_eq_false_iff, decide_eq_false_iff_not] at hok
    by_cases hl : l < 0
    · clear hok
      go_enter Try.func20, Try.ntmps20
      go_wp2_with fail
      rw [← hz]
      refine HC.out.mono ?_
      rintro e w1 ⟨rfl, hg1⟩
      replace c3 := cell_gr c3 hg1
      go_wp2_with fail
      go_ret2
      exact ⟨rfl, hg.trans hg1⟩
    · have hln : (n : Int) ≤ l := by omega
      have hl0 : ¬ l < 0 := hl
      clear hok hl
      go_enter Try.func20, Try.ntmps20
      go_wp2_with fail
      rw [← hz]
      refine HC.out.mono ?_
      rintro e w1 ⟨rfl, hg1⟩
      replace c3 := cell_gr c3 hg1
      go_wp2_with fail
      go_ret2
      exact ⟨rfl, hg.trans hg1⟩

theorem own_one (w : World) (x : Int) : (w.alloc (.cells #[.int .i64 x] 3)).ownsRow w.heap.size 3 1 (.slice (some ⟨w.heap.size, 0, none⟩) 1 1) 1 (cel .i64 1 (fun _ => x)) :=
  ⟨rfl, .inr ⟨_, 1, _, rfl, Nat.le_refl _, Go.Deep.blk_alloc_new _ _, Nat.le_refl _, by unfold maxLen; omega, rfl, rfl⟩⟩
theorem own_sliceI {w : World} {base n : Nat} {v : Value} {xs : List Value} (h : w.ownsRow base 3 1 v n xs) : ∃ a c, v = .slice a n c := by
  rcases h.2 with ⟨e, e0⟩ | ⟨g, cap, cur, e, _⟩
  · subst e0; exact ⟨none, 0, e⟩
  · exact ⟨_, cap, e⟩

theorem own_res {w : World} {base j c : Nat} {a : Option Addr} {F : Nat → Int} (h : w.ownsRow base 3 1 (.slice a (j + 1) c) (j + 1) (cel .i64 (j + 1) F)) : SlI w a (j + 1) F ∧ a ≠ none ∧ j + 1 ≤ c ∧ c ≤ maxLen := by
  obtain ⟨a', c', e, h1, h2, h3⟩ := own_form h
  cases e
  rcases h3 with h3 | ⟨g, e, _, hg, hc⟩
  · omega
  · subst e
    exact ⟨.inr ⟨g, 0, rfl, hg, hc⟩, by simp, h1, h2⟩

set_option maxHeartbeats 4000000 in
theorem walk_yes {W H : Int} {al : Option Addr} {n cap : Nat} {f : Nat → Int} {ad : Option Addr} {cd : Nat} {ae : Option Addr} {ce l : Nat} {D : Nat → Int} {w : World} (h : Sl w al n f) (hm : mayTB W H n f = true) (hl : l < n) (hD : SlI w ae n D) :
    Calls Try.prog 20 #[.agg #[.int .i64 W, .int .i64 H, .slice al n cap], .agg #[.slice ad n cd, .slice ae n ce], .int .i64 l] w fun e w' => (∃ j a c, e = .returned (.tuple #[.slice a (j + 1) c, .int .i64 (D (posF (nearF W H n f) D l j))]) ∧ Went (nearF W H n f) D n l j ∧ SlI w' a (j + 1) (fun i => (posF (nearF W H n f) D l i : Int)) ∧ a ≠ none) ∧ Gr w w' := by
  obtain ⟨i0, hi, hz0, hz1, hz2⟩ := info_parts info_int
  obtain ⟨z, hz, hg, c1, c2, c3, d1, d2⟩ := two_in w W H (.slice al n cap) (.slice ad n cd) (.slice ae n ce)
  have hn2 := (mayTB_n hm).2.1
  have hgph := gph_of hm h.byte
  have HC : Hid (Calls Try.prog 31 #[.agg #[.int .i64 W, .int .i64 H, .slice al n cap], .agg #[.slice ad n cd, .slice ae n ce]] z fun e w' => e = .returned (.bool true) ∧ Gr z w') := hide ((fits10_any W H al n cap f ad n cd ae n ce z (h.gr hg)).mono (fun e w' ⟨a, b⟩ => ⟨by rw [a]; simp [fitF, hm], b⟩))
  have hl0 : ¬ (l : Int) < 0 := by omega
  have hln : (l : Int) < (n : Int) := by omega
  go_enter Try.func20, Try.ntmps20
  go_wp2_with fail
  rw [← hz]
  clear hz
  obtain ⟨BT, hBT⟩ : ∃ BT, BT = w.heap.size := ⟨_, rfl⟩
  rw [← hBT] at c1 c2 c3 d1 d2 ⊢
  clear hBT
  refine HC.out.mono ?_
  rintro e w1 ⟨rfl, hg1⟩
  replace c1 := cell_gr c1 hg1
  replace c2 := cell_gr c2 hg1
  replace c3 := cell_gr c3 hg1
  replace d1 := cell_gr d1 hg1
  replace d2 := cell_gr d2 hg1
  have hgr := hg.trans hg1
  replace h := h.gr hgr
  replace hD := hD.gr hgr
  clear HC hg hg1 d1
  have ho := own_one w1 (l : Int)
  have hga : Gr w1 (w1.alloc (.cells #[.int .i64 (l : Int)] 3)) := (Gr.refl w1).alloc _
  go_upto_region 4 with fail
  generalize (w1.alloc (.cells #[.int .i64 (l : Int)] 3)) = w2 at *
  obtain ⟨g1, hg1e⟩ : ∃ g1, g1 = w1.heap.size := ⟨_, rfl⟩
  rw [← hg1e] at ho ⊢
  have HSZ : Hid (g1 = w1.heap.size) := hide hg1e
  clear hg1e
  obtain ⟨P, hP⟩ : ∃ P, P = posF (nearF W H n f) D l := ⟨_, rfl⟩
  have HPE := hide hP
  have hown0 : w2.ownsRow g1 3 1 (.slice (some ⟨g1, 0, none⟩) (0 + 1) 1) (0 + 1) (cel .i64 (0 + 1) (fun i => (P i : Int))) := by
    have e : cel .i64 (0 + 1) (fun i => (P i : Int)) = cel .i64 1 (fun _ => (l : Int)) := cel_congr fun i hi => by
      obtain rfl : i = 0 := by omega
      rw [hP]; rfl
    rw [e]
    exact ho
  have HP0 : Hid ((l : Int) = (P 0 : Int)) := hide (by rw [hP]; rfl)
  have HHG := hide hgph
  have HLN := hide hl
  clear ho hgph
  clear hP
  go_loopw [2, 8] (fun lv wv u => ∃ (j : Nat) (a1 : Option Addr) (cc : Nat), lv = .int .i64 (P j : Int) ∧ wv = .slice a1 (j + 1) cc ∧ j + 1 ≤ n ∧ Hid (∀ i, i < j → 0 ≤ hopF (nearF W H n f) D (P i)) ∧ u.ownsRow g1 3 1 (.slice a1 (j + 1) cc) (j + 1) (cel .i64 (j + 1) (fun i => (P i : Int))) ∧ Gr w1 u) (fun _ v _ => n - slN v)
  case atStart => exact ⟨0, some ⟨g1, 0, none⟩, 1, by rw [← HP0.out], rfl, by omega, hide (fun i hi => absurd hi (Nat.not_lt_zero _)), hown0, hga⟩
  case round =>
    obtain ⟨j, a1, cc, rfl, rfl, hj, HON, hown, hgu⟩ := hrel
    generalize wr = w3 at *
    clear hown0 hga HP0 hl0 hln
    have hpn : P j < n := by
      have := pos_lt HHG.out HLN.out j (by have := HON.out; rw [HPE.out] at this; exact this)
      rw [HPE.out]
      exact this
    obtain ⟨p, hp⟩ : ∃ p, p = P j := ⟨_, rfl⟩
    rw [← hp] at hpn ⊢
    have HPJ := hide hp
    clear hp
    have k1 := cell_gr c1 hgu
    have k2 := cell_gr c2 hgu
    have k3 := cell_gr c3 hgu
    have k4 := cell_gr d2 hgu
    obtain ⟨b2, o2, rfl, hb2, hcell⟩ := hD.at (by omega)
    have x1 := cell_gr (hcell p hpn) hgu
    obtain ⟨dp, hdp⟩ : ∃ dp, dp = D p := ⟨_, rfl⟩
    rw [← hdp] at x1
    have HNX : Hid (nxF (nearF W H n f) p dp = hopF (nearF W H n f) D p) := hide (by rw [hdp]; exact nx_hop hm hpn)
    have HDP : Hid (dp = D (P j)) := hide (by rw [hdp, HPJ.out])
    have p0 : (0 : Int) ≤ (p : Int) := by omega
    have pn : (p : Int) < (n : Int) := by omega
    have HR : Hid (SlI w3 a1 (j + 1) (fun i => (posF (nearF W H n f) D l i : Int)) ∧ a1 ≠ none ∧ j + 1 ≤ cc ∧ cc ≤ maxLen) := hide (by have r := own_res hown; rw [HPE.out] at r; exact r)
    clear hcell hdp
    by_cases hjn : j + 1 < n
    · have hji : (j : Int) + 1 < (n : Int) := by omega
      go_wp2_with fail
      go_region_held3 (fun u => u.cell? ⟨BT, 0, none⟩ = some (.int .i64 W) ∧ u.cell? ⟨BT, 1, none⟩ = some (.int .i64 H) ∧ u.cell? ⟨BT, 2, none⟩ = some (.slice al n cap) ∧ u.cell? ⟨BT + 1, 1, none⟩ = some (.slice (some ⟨b2, o2, none⟩) n ce) ∧ u.cell? ⟨b2, o2 + p, none⟩ = some (.int .i64 dp))
        (first | exact ⟨k1, k2, k3, k4, x1⟩ | exact ⟨cell_gr k1 hg9, cell_gr k2 hg9, cell_gr k3 hg9, cell_gr k4 hg9, cell_gr x1 hg9⟩)
        (first | (go_at_call 32; refine (snext_any W H al n cap f p dp _ ((h.gr hgu).gr ((Gr.refl w3).drew))).mono ?_; rintro e w4 ⟨rfl, hg4⟩; have hg9 : Gr w3 w4 := ((Gr.refl w3).drew).trans hg4))
      rw [HNX.out]
      replace k4 := cell_gr k4 hg9
      replace x1 := cell_gr x1 hg9
      clear hg4 k1 k2 k3
      by_cases hz : hopF (nearF W H n f) D p < 0
      · have HW : Hid (Went (nearF W H n f) D n l j) := hide ⟨by have := HON.out; rw [HPE.out] at this; exact this, .inr (by rw [HPJ.out, HPE.out] at hz; exact hz), hj⟩
        generalize hopF (nearF W H n f) D p = z at *
        go_wp2_with fail
        go_quiet (fail)
        go_wp2_with fail
        go_ret2
        exact ⟨⟨j, a1, cc, by have e := HDP.out; rw [HPE.out] at e; rw [← e]; first | done | rfl, HW.out, (HR.out.1.gr hg9).gr (Gr.drewN (Gr.refl w4) _), HR.out.2.1⟩, ((hgr.trans hgu).trans hg9).drewN _⟩
      · have hq : hopF (nearF W H n f) D p = (P (j + 1) : Int) := by
          have h1 := pos_step (nb := nearF W H n f) (D := D) (c := l) (j := j) (by rw [HPJ.out, HPE.out] at hz; omega)
          rw [HPJ.out, HPE.out]
          exact h1
        have HO2 : Hid (∀ i, i < j + 1 → 0 ≤ hopF (nearF W H n f) D (P i)) := hide (fun i hi => by
          rcases (by omega : i < j ∨ i = j) with k | rfl
          · exact HON.out i k
          · rw [← HPJ.out]; omega)
        rw [hq]
        clear hz hq
        obtain ⟨q, hqe⟩ : ∃ q, q = P (j + 1) := ⟨_, rfl⟩
        have HQ := hide hqe
        rw [← hqe]
        clear hqe
        have q0 : ¬ (q : Int) < 0 := by omega
        have HO := hide (own_gr hown hg9)
        have HG := hide (hgu.trans hg9)
        have HG1 : Hid (g1 ≤ w4.heap.size) := hide (by have := HSZ.out; have := Gr.size HG.out; omega)
        clear hown hgu hg9 k4 x1
        go_wp2_with (at_builtin; refine wpList_append_own _ rfl _ _ 25 rfl g1 3 i0 (.int .i64 0) 1 8 Try.underlying25 hi hz0 hz1 hz2 rfl (by decide) _ _ _ rfl (HO.out.alloc _) ⟨w4.heap.size, 0, none⟩ 1 1 [.int .i64 (q : Int)] rfl rfl (alloc_one _ _ _) (by simp [Value.oneCell']) (by unfold maxLen; omega) (by omega) (by have := HG1.out; simp only [World.size_alloc]; omega) ?_; intro v' w5 hown' hgrow hnil)
        obtain ⟨a2, c2', rfl⟩ := own_sliceI hown'
        go_roundw
        case rel => exact ⟨j + 1, by rw [← HQ.out], a2, c2', rfl, hjn, HO2, by rw [cel_succ, ← HQ.out]; exact hown', Gr.grown (HG.out.alloc _) hgrow (fun q e => by have := (HO.out.lt q e).1; have := HSZ.out; omega)⟩
        case measure => simp [slN]; omega
    · obtain rfl : n = j + 1 := by omega
      have HW : Hid (Went (nearF W H (j + 1) f) D (j + 1) l j) := hide ⟨by have := HON.out; rw [HPE.out] at this; exact this, .inl rfl, hj⟩
      go_wp2_with fail
      go_quiet (fail)
      go_wp2_with fail
      go_ret2
      exact ⟨⟨j, a1, cc, by have e := HDP.out; rw [HPE.out] at e; rw [← e]; first | done | rfl, HW.out, HR.out.1.gr (Gr.drewN (Gr.refl w3) _), HR.out.2.1⟩, (hgr.trans hgu).drewN _⟩
end Go.Proofs.Ytlnbolaaaahoaaa
