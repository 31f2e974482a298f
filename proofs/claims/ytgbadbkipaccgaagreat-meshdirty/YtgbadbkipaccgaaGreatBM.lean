/- Which seeds may be at a tile: the document's answer is the program's. No condition. -/
import Derived.Test.YtgbadbkipaccgaaGreatBS2
import Derived.Test.YtgbadbkipaccgaaGreatBT
namespace Go.Proofs.YtgbadbkipaccgaaGreat
open Go.RowKit
set_option maxRecDepth 20000

def openB (W H : Int) (n : Nat) (f : Nat → Int) (l : Int) : Bool := decide (0 < atF W H n f l ∧ atF W H n f l < 255)
def wayB (W H : Int) (n : Nat) (f : Nat → Int) (l s : Int) : Bool := decide (s = 4 ∨ (0 ≤ s ∧ s ≤ 3 ∧ nearF W H n f l s = -1))
def okS (W H : Int) (n : Nat) (f : Nat → Int) (x : Sd) : Bool := openB W H n f x.1 && wayB W H n f x.1 x.2.1 && decide (0 ≤ x.2.2 ∧ x.2.2 ≤ 1073741824)
def mayS (W H : Int) (n : Nat) (f : Nat → Int) (L : List Sd) : Bool := mayTB W H n f && decide (∀ j, j < L.length → okS W H n f (el L j) = true)
theorem mayS_no {W H : Int} {n : Nat} {f : Nat → Int} {L : List Sd} (h : mayTB W H n f = false) : mayS W H n f L = false := by simp [mayS, h]
theorem mayS_not {W H : Int} {n m : Nat} {f : Nat → Int} {L : List Sd} {j : Nat} (hl : L.length = m) (hj : j < m) (h : okS W H n f (el L j) = false) : mayS W H n f L = false := by
  unfold mayS
  rw [decide_eq_false ?_, Bool.and_false]
  intro k
  have := k j (by omega)
  rw [h] at this
  cases this
theorem mayS_yes {W H : Int} {n m : Nat} {f : Nat → Int} {L : List Sd} (hl : L.length = m) (hm : mayTB W H n f = true) (h : ∀ j, j < m → okS W H n f (el L j) = true) : mayS W H n f L = true := by
  unfold mayS
  rw [hm, decide_eq_true (by rw [hl]; exact h)]
  rfl

set_option maxHeartbeats 1000000 in
theorem isOpen_any (W H : Int) (a : Option Addr) (n cap : Nat) (f : Nat → Int) (l : Int) (w : World) (h : Sl w a n f) :
    Calls Tryz.prog 93 #[.agg #[.int .i64 W, .int .i64 H, .slice a n cap], .int .i64 l] w fun e w' => e = .returned (.bool (openB W H n f l)) ∧ Gr w w' := by
  unfold openB
  obtain ⟨v, hv⟩ : ∃ v, v = atF W H n f l := ⟨_, rfl⟩
  rw [← hv]
  have HV := hide hv
  clear hv
  by_cases h1 : 0 < v
  · by_cases h2 : v < 255
    · rw [decide_eq_true (show 0 < v ∧ v < 255 from ⟨h1, h2⟩)]
      go_enter Tryz.func93, Tryz.ntmps93
      go_wp2_with (go_at_call 98; refine (at_any _ _ _ _ _ f _ _ (h.gr (by repeat (first | exact Gr.refl _ | assumption | exact Dr.gr (by assumption) | refine Gr.alloc ?_ _ | refine Gr.drewN ?_ _ | refine Gr.drew ?_ | refine Gr.trans ?_ (by assumption) | refine Gr.trans ?_ (Dr.gr (by assumption)))))).mono ?_; rintro e w' ⟨rfl, hg⟩; rw [← HV.out])
      go_ret
      exact ⟨rfl, (by repeat (first | exact Gr.refl _ | assumption | exact Dr.gr (by assumption) | refine Gr.alloc ?_ _ | refine Gr.drewN ?_ _ | refine Gr.drew ?_ | refine Gr.trans ?_ (by assumption) | refine Gr.trans ?_ (Dr.gr (by assumption))))⟩
    · rw [decide_eq_false (fun k : 0 < v ∧ v < 255 => h2 k.2)]
      go_enter Tryz.func93, Tryz.ntmps93
      go_wp2_with (go_at_call 98; refine (at_any _ _ _ _ _ f _ _ (h.gr (by repeat (first | exact Gr.refl _ | assumption | exact Dr.gr (by assumption) | refine Gr.alloc ?_ _ | refine Gr.drewN ?_ _ | refine Gr.drew ?_ | refine Gr.trans ?_ (by assumption) | refine Gr.trans ?_ (Dr.gr (by assumption)))))).mono ?_; rintro e w' ⟨rfl, hg⟩; rw [← HV.out])
      go_ret
      exact ⟨ret_bool (decide_eq_false (by omega)), (by repeat (first | exact Gr.refl _ | assumption | exact Dr.gr (by assumption) | refine Gr.alloc ?_ _ | refine Gr.drewN ?_ _ | refine Gr.drew ?_ | refine Gr.trans ?_ (by assumption) | refine Gr.trans ?_ (Dr.gr (by assumption))))⟩
  · rw [decide_eq_false (fun k : 0 < v ∧ v < 255 => h1 k.1)]
    go_enter Tryz.func93, Tryz.ntmps93
    go_wp2_with (go_at_call 98; refine (at_any _ _ _ _ _ f _ _ (h.gr (by repeat (first | exact Gr.refl _ | assumption | exact Dr.gr (by assumption) | refine Gr.alloc ?_ _ | refine Gr.drewN ?_ _ | refine Gr.drew ?_ | refine Gr.trans ?_ (by assumption) | refine Gr.trans ?_ (Dr.gr (by assumption)))))).mono ?_; rintro e w' ⟨rfl, hg⟩; rw [← HV.out])
    go_ret
    exact ⟨rfl, (by repeat (first | exact Gr.refl _ | assumption | exact Dr.gr (by assumption) | refine Gr.alloc ?_ _ | refine Gr.drewN ?_ _ | refine Gr.drew ?_ | refine Gr.trans ?_ (by assumption) | refine Gr.trans ?_ (Dr.gr (by assumption))))⟩
set_option maxHeartbeats 1000000 in
theorem isWayOut_any (W H : Int) (a : Option Addr) (n cap : Nat) (f : Nat → Int) (l s : Int) (w : World) (h : Sl w a n f) :
    Calls Tryz.prog 94 #[.agg #[.int .i64 W, .int .i64 H, .slice a n cap], .int .i64 l, .int .i64 s] w fun e w' => e = .returned (.bool (wayB W H n f l s)) ∧ Gr w w' := by
  unfold wayB
  obtain ⟨v, hv⟩ : ∃ v, v = nearF W H n f l s := ⟨_, rfl⟩
  rw [← hv]
  have HV := hide hv
  clear hv
  by_cases h4 : s = 4
  · rw [decide_eq_true (show s = 4 ∨ (0 ≤ s ∧ s ≤ 3 ∧ v = -1) from .inl h4)]
    subst h4
    go_enter Tryz.func94, Tryz.ntmps94
    go_wp2
    go_ret
    exact ⟨rfl, (by repeat (first | exact Gr.refl _ | assumption | exact Dr.gr (by assumption) | refine Gr.alloc ?_ _ | refine Gr.drewN ?_ _ | refine Gr.drew ?_ | refine Gr.trans ?_ (by assumption) | refine Gr.trans ?_ (Dr.gr (by assumption))))⟩
  · have e4 : (s == 4) = false := by simp [h4]
    by_cases h0 : 0 ≤ s
    · by_cases h3 : s ≤ 3
      · obtain ⟨r, hr⟩ : ∃ r, r = (v == -1) := ⟨_, rfl⟩
        have hd : decide (s = 4 ∨ (0 ≤ s ∧ s ≤ 3 ∧ v = -1)) = r := by
          rw [hr, Bool.eq_iff_iff, decide_eq_true_iff, beq_iff_eq]
          constructor
          · rintro (k | k)
            · exact absurd k h4
            · exact k.2.2
          · intro k; exact .inr ⟨h0, h3, k⟩
        rw [hd]
        have hr' : (v == -1) = r := hr.symm
        clear hd h4 hr
        go_enter Tryz.func94, Tryz.ntmps94
        go_wp2_with (go_at_call 99; refine (tnear_any _ _ _ _ _ f _ _ _ (h.gr (by repeat (first | exact Gr.refl _ | assumption | exact Dr.gr (by assumption) | refine Gr.alloc ?_ _ | refine Gr.drewN ?_ _ | refine Gr.drew ?_ | refine Gr.trans ?_ (by assumption) | refine Gr.trans ?_ (Dr.gr (by assumption)))))).mono ?_; rintro e w' ⟨rfl, hg⟩; rw [← HV.out])
        go_ret
        exact ⟨rfl, (by repeat (first | exact Gr.refl _ | assumption | exact Dr.gr (by assumption) | refine Gr.alloc ?_ _ | refine Gr.drewN ?_ _ | refine Gr.drew ?_ | refine Gr.trans ?_ (by assumption) | refine Gr.trans ?_ (Dr.gr (by assumption))))⟩
      · rw [decide_eq_false (fun k : s = 4 ∨ (0 ≤ s ∧ s ≤ 3 ∧ v = -1) => k.elim h4 (fun q => h3 q.2.1))]
        clear h4
        go_enter Tryz.func94, Tryz.ntmps94
        go_wp2
        go_ret
        exact ⟨rfl, (by repeat (first | exact Gr.refl _ | assumption | exact Dr.gr (by assumption) | refine Gr.alloc ?_ _ | refine Gr.drewN ?_ _ | refine Gr.drew ?_ | refine Gr.trans ?_ (by assumption) | refine Gr.trans ?_ (Dr.gr (by assumption))))⟩
    · rw [decide_eq_false (fun k : s = 4 ∨ (0 ≤ s ∧ s ≤ 3 ∧ v = -1) => k.elim h4 (fun q => h0 q.1))]
      clear h4
      go_enter Tryz.func94, Tryz.ntmps94
      go_wp2
      go_ret
      exact ⟨rfl, (by repeat (first | exact Gr.refl _ | assumption | exact Dr.gr (by assumption) | refine Gr.alloc ?_ _ | refine Gr.drewN ?_ _ | refine Gr.drew ?_ | refine Gr.trans ?_ (by assumption) | refine Gr.trans ?_ (Dr.gr (by assumption))))⟩

set_option maxHeartbeats 4000000 in
theorem smay_any (W H : Int) (a : Option Addr) (n cap : Nat) (f : Nat → Int) (al : Option Addr) (m c : Nat) (L : List Sd) (w : World) (h : Sl w a n f) (g : SlS w al m c L) :
    Calls Tryz.prog 84 #[.agg #[.int .i64 W, .int .i64 H, .slice a n cap], .slice al m c] w fun e w' => e = .returned (.bool (mayS W H n f L)) ∧ Gr w w' := by
  have hcm := g.len.2.2
  have hmc := g.len.2.1
  unfold maxLen at hcm
  have HL := hide g.len.1
  generalize hR : mayS W H n f L = R
  have HR := hide hR
  clear hR
  obtain ⟨c1, c2, c3⟩ := tri_at w W H (.slice a n cap)
  have hg1 : Gr w (w.alloc (.cells #[.int .i64 W, .int .i64 H, .slice a n cap] 83)) := (Gr.refl w).alloc _
  go_enter Tryz.func84, Tryz.ntmps84
  go_wp2_with fail
  generalize (w.alloc (.cells #[.int .i64 W, .int .i64 H, .slice a n cap] 83)) = w1 at *
  generalize w.heap.size = B0 at *
  refine (tmay_any W H a n cap f w1 (h.gr hg1)).mono ?_
  rintro e w2 ⟨rfl, hg2⟩
  replace c1 := cell_gr c1 hg2
  replace c2 := cell_gr c2 hg2
  replace c3 := cell_gr c3 hg2
  have hgr := hg1.trans hg2
  have hsl := h.gr hgr
  have hs := g.gr hgr
  clear h g hg1 hg2
  cases hm : mayTB W H n f with
  | false =>
    obtain rfl : R = false := HR.out.symm.trans (mayS_no hm)
    clear hm
    go_wp2
    go_ret
    exact ⟨rfl, hgr⟩
  | true =>
    have HM := hide hm
    clear hm
    go_wp2_with fail
    go_loopw [12] (fun i u => ∃ (s : Nat), s ≤ m ∧ i = .int .i64 s ∧ Hid (∀ j, j < s → okS W H n f (el L j) = true) ∧ Gr w2 u) (fun i _ => m - (intOf i).toNat)
    case atStart => exact ⟨0, by omega, rfl, fun j hj => absurd hj (Nat.not_lt_zero _), Gr.refl _⟩
    case round =>
      obtain ⟨s, hsm, rfl, HO, hgu⟩ := hrel
      generalize wr = w3 at *
      by_cases hsn : s < m
      · have hsn2 : (s : Int) < (m : Int) := by omega
        obtain ⟨B, o, rfl, hB, hc⟩ := hs.at (by omega)
        obtain ⟨x1, x2, x3⟩ := hc s hsn
        replace x1 := cell_gr x1 hgu
        replace x2 := cell_gr x2 hgu
        replace x3 := cell_gr x3 hgu
        have d1 := cell_gr c1 hgu
        have d2 := cell_gr c2 hgu
        have d3 := cell_gr c3 hgu
        obtain ⟨x, hx⟩ : ∃ x : Sd, x = el L s := ⟨_, rfl⟩
        rw [← hx] at x1 x2 x3
        have HX := hide hx
        clear hx hc
        obtain ⟨u1, hu1⟩ : ∃ u1, u1 = w3.alloc (.cells #[.int .i64 x.1, .int .i64 x.2.1, .int .i64 x.2.2] 87) := ⟨_, rfl⟩
        obtain ⟨y1, y2, y3⟩ := tri3 w3 x 87
        have hg3 : Gr w3 u1 := hu1 ▸ (Gr.refl w3).alloc _
        rw [← hu1] at y1 y2 y3
        replace d1 := cell_gr d1 hg3
        replace d2 := cell_gr d2 hg3
        replace d3 := cell_gr d3 hg3
        go_upto_region 6 with fail
        rw [← hu1]
        generalize w3.heap.size = B2 at *
        clear hu1 x1 x2 x3
        have hgu1 := hgu.trans hg3
        have hgrs := hgr.trans hgu1
        have hsl1 := hsl.gr hgu1
        go_wp2_with fail
        refine (isOpen_any W H a n cap f x.1 u1 hsl1).mono ?_
        rintro e u2 ⟨rfl, hg4⟩
        replace y1 := cell_gr y1 hg4
        replace y2 := cell_gr y2 hg4
        replace y3 := cell_gr y3 hg4
        replace d1 := cell_gr d1 hg4
        replace d2 := cell_gr d2 hg4
        replace d3 := cell_gr d3 hg4
        replace hgu1 := hgu1.trans hg4
        replace hgrs := hgrs.trans hg4
        replace hsl1 := hsl1.gr hg4
        clear hg4 hg3
        cases ho : openB W H n f x.1 with
        | false =>
          obtain rfl : R = false := HR.out.symm.trans (mayS_not HL.out hsn (by rw [← HX.out]; simp [okS, ho]))
          clear ho
          go_wp2
          go_ret
          exact ⟨rfl, hgrs⟩
        | true =>
          have HOP := hide ho
          clear ho
          go_wp2_with fail
          refine (isWayOut_any W H a n cap f x.1 x.2.1 u2 hsl1).mono ?_
          rintro e u3 ⟨rfl, hg5⟩
          replace y3 := cell_gr y3 hg5
          replace hgu1 := hgu1.trans hg5
          replace hgrs := hgrs.trans hg5
          clear hg5
          cases hwy : wayB W H n f x.1 x.2.1 with
          | false =>
            obtain rfl : R = false := HR.out.symm.trans (mayS_not HL.out hsn (by rw [← HX.out]; simp [okS, hwy]))
            clear hwy
            go_wp2
            go_ret
            exact ⟨rfl, hgrs⟩
          | true =>
            have HW := hide hwy
            clear hwy
            by_cases k0 : x.2.2 < 0
            · obtain rfl : R = false := HR.out.symm.trans (mayS_not HL.out hsn (by rw [← HX.out]; unfold okS; rw [decide_eq_false (fun k : 0 ≤ x.2.2 ∧ x.2.2 ≤ 1073741824 => by omega), Bool.and_false]))
              go_wp2
              go_ret
              exact ⟨rfl, hgrs⟩
            · by_cases k1 : 1073741824 < x.2.2
              · obtain rfl : R = false := HR.out.symm.trans (mayS_not HL.out hsn (by rw [← HX.out]; unfold okS; rw [decide_eq_false (fun k : 0 ≤ x.2.2 ∧ x.2.2 ≤ 1073741824 => by omega), Bool.and_false]))
                go_wp2
                go_ret
                exact ⟨rfl, hgrs⟩
              · have HK : Hid (okS W H n f x = true) := by
                  show okS W H n f x = true
                  unfold okS
                  rw [HOP.out, HW.out, decide_eq_true (show 0 ≤ x.2.2 ∧ x.2.2 ≤ 1073741824 by omega)]
                  rfl
                go_wp2
                go_roundw
                case rel =>
                  refine ⟨s + 1, hsn, by go_num, (show Hid _ from fun j hj => ?_), hgu1⟩
                  rcases (by omega : j < s ∨ j = s) with q | rfl
                  · exact HO.out j q
                  · rw [← HX.out]; exact HK.out
                case measure => simp [intOf]; omega
      · have : s = m := by omega
        subst this
        obtain rfl : R = true := HR.out.symm.trans (mayS_yes HL.out HM.out HO.out)
        go_wp2
        go_ret
        exact ⟨rfl, hgr.trans hgu⟩

theorem cell_ge (w h x y : Int) : cellF w h x y = -1 ∨ 0 ≤ cellF w h x y := by
  unfold cellF
  split
  · rename_i k
    have := Int.mul_nonneg k.2.2.2.1 (show 0 ≤ w by omega)
    exact .inr (by omega)
  · exact .inl rfl
theorem near_ge (W H : Int) (n : Nat) (f : Nat → Int) (l s : Int) : nearF W H n f l s = -1 ∨ 0 ≤ nearF W H n f l s := by
  unfold nearF
  split
  · unfold stepF
    split
    · repeat (first | exact cell_ge _ _ _ _ | exact .inl rfl | split)
    · exact .inl rfl
  · exact .inl rfl
theorem open_iff {W H : Int} {n : Nat} {f : Nat → Int} {l : Int} (hm : mayTB W H n f = true) (hb : ∀ i, i < n → 0 ≤ f i ∧ f i ≤ 255) : openB W H n f l = true ↔ (0 ≤ l ∧ l < n) ∧ f l.toNat ≠ 255 := by
  unfold openB
  rw [decide_eq_true_iff]
  by_cases hl : 0 ≤ l ∧ l < n
  · have e : atF W H n f l = f l.toNat := by simp [atF, isLocB, hm, hl.1, hl.2]
    have hlt : l.toNat < n := by omega
    have h0 := (fullB_iff n f).1 (by unfold mayTB at hm; simp only [Bool.and_eq_true] at hm; exact hm.2) l.toNat hlt
    have := hb l.toNat hlt
    rw [e]
    constructor
    · intro k; exact ⟨hl, by omega⟩
    · intro k; have := k.2; omega
  · have e : atF W H n f l = 0 := by
      unfold atF isLocB
      rw [hm, decide_eq_false hl]
      rfl
    rw [e]
    constructor
    · intro k; omega
    · intro k; exact absurd k.1 hl
theorem okS_iff {W H : Int} {n : Nat} {f : Nat → Int} {x : Sd} (hm : mayTB W H n f = true) (hb : ∀ i, i < n → 0 ≤ f i ∧ f i ≤ 255) :
    okS W H n f x = true ↔ (0 ≤ x.1 ∧ x.1 < n) ∧ f x.1.toNat ≠ 255 ∧ (0 ≤ x.2.2 ∧ x.2.2 ≤ 1073741824) ∧ (0 ≤ x.2.1 ∧ x.2.1 ≤ 4) ∧ (x.2.1 = 4 ∨ nearF W H n f x.1 x.2.1 < 0) := by
  unfold okS wayB
  rw [Bool.and_eq_true, Bool.and_eq_true, open_iff hm hb, decide_eq_true_iff, decide_eq_true_iff]
  have hn := near_ge W H n f x.1 x.2.1
  constructor
  · rintro ⟨⟨⟨k1, k2⟩, k3⟩, k4⟩
    exact ⟨k1, k2, k4, by omega, by omega⟩
  · rintro ⟨k1, k2, k3, k4, k5⟩
    exact ⟨⟨⟨k1, k2⟩, by omega⟩, k3⟩
theorem okS_not {W H : Int} {n : Nat} {f : Nat → Int} {x : Sd} (hm : mayTB W H n f = true) (hb : ∀ i, i < n → 0 ≤ f i ∧ f i ≤ 255)
    (h : ¬ ((0 ≤ x.1 ∧ x.1 < n) ∧ f x.1.toNat ≠ 255 ∧ (0 ≤ x.2.2 ∧ x.2.2 ≤ 1073741824) ∧ (0 ≤ x.2.1 ∧ x.2.1 ≤ 4) ∧ (x.2.1 = 4 ∨ nearF W H n f x.1 x.2.1 < 0))) : okS W H n f x = false := by
  cases e : okS W H n f x with
  | false => rfl
  | true => exact absurd ((okS_iff hm hb).1 e) h

end Go.Proofs.YtgbadbkipaccgaaGreat
