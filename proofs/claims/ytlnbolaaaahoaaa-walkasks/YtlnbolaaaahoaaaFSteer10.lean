/- What the inner calls of steer answer: next, by, the closure of direction, direction. Nothing that was there is written. No condition. -/
import Derived.Test.YtlnbolaaaahoaaaFMath10
namespace Go.Proofs.Ytlnbolaaaahoaaa
open Go.RowKit
set_option maxRecDepth 20000

set_option maxHeartbeats 1000000 in
theorem snext_any (W H : Int) (a : Option Addr) (n cap : Nat) (f : Nat → Int) (l s : Int) (w : World) (h : Sl w a n f) :
    Calls Try.prog 32 #[.agg #[.int .i64 W, .int .i64 H, .slice a n cap], .int .i64 l, .int .i64 s] w fun e w' => e = .returned (.int .i64 (nxF (nearF W H n f) l s)) ∧ Gr w w' := by
  by_cases h4 : s = 4
  · subst h4
    go_enter Try.func32, Try.ntmps32
    go_wp2
    go_ret
    exact ⟨ret_int (by simp [nxF]), (by repeat (first | exact Gr.refl _ | assumption | exact Dr.gr (by assumption) | refine Gr.alloc ?_ _ | refine Gr.drewN ?_ _ | refine Gr.drew ?_ | refine Gr.trans ?_ (by assumption) | refine Gr.trans ?_ (Dr.gr (by assumption))))⟩
  · have e4 : (s == 4) = false := by simpa using h4
    have HN : Hid (nxF (nearF W H n f) l s = nearF W H n f l s) := hide (by unfold nxF; rw [if_neg h4])
    clear h4
    go_enter Try.func32, Try.ntmps32
    go_wp2_with (go_at_call 41; refine (tnear_any _ _ _ _ _ f _ _ _ (h.gr ((Gr.refl _).alloc _))).mono ?_; rintro e w' ⟨rfl, hg⟩)
    go_ret
    exact ⟨ret_int HN.out.symm, (by repeat (first | exact Gr.refl _ | assumption | exact Dr.gr (by assumption) | refine Gr.alloc ?_ _ | refine Gr.drewN ?_ _ | refine Gr.drew ?_ | refine Gr.trans ?_ (by assumption) | refine Gr.trans ?_ (Dr.gr (by assumption))))⟩

theorem nx_cases {W H : Int} {n : Nat} {f : Nat → Int} (hm : mayTB W H n f = true) (hb : ∀ i, i < n → 0 ≤ f i ∧ f i ≤ 255) {c : Nat} (hc : c < n) {d : Int} (d0 : 0 ≤ d) (d4 : d ≤ 4) :
    nxF (nearF W H n f) c d < 0 ∨ ∃ q : Nat, nxF (nearF W H n f) c d = (q : Int) ∧ q < n := by
  by_cases h4 : d = 4
  · left; unfold nxF; rw [if_pos h4]; omega
  · rcases near_cases W H n f c d with h | ⟨q, h⟩
    · left; unfold nxF; rw [if_neg h4]; exact h
    · right
      refine ⟨q, by unfold nxF; rw [if_neg h4]; exact h, ((gph_of hm hb).sym c q d d0 (by omega) h hc).1⟩

set_option maxHeartbeats 2000000 in
theorem sby_any {W H : Int} {al : Option Addr} {n cap : Nat} {f : Nat → Int} {bl : Option Addr} {m c : Nat} {L : List Sd} {ag : Option Addr} {gc : Nat} {F : Nat → Int} {w : World} (l : Nat) (d : Int)
    (h : Sl w al n f) (hm : mayTB W H n f = true) (hS : SlS w bl m c L) (hF : SlI w ag n F) (hl : l < n) (hFb : ∀ i, i < n → 0 ≤ F i ∧ F i ≤ 1099511627776) (d0 : 0 ≤ d) (d4 : d ≤ 4) :
    Calls Try.prog 38 #[.agg #[.int .i64 W, .int .i64 H, .slice al n cap], .slice bl m c, .slice ag n gc, .int .i64 l, .int .i64 d] w fun e w' => e = .returned (.int .i64 (goF (nearF W H n f) f F L l d)) ∧ Gr w w' := by
  have hnc := nx_cases hm h.byte hl d0 d4
  obtain ⟨c1, c2, c3⟩ := tri_at w W H (.slice al n cap)
  have hg1 : Gr w (w.alloc (.cells #[.int .i64 W, .int .i64 H, .slice al n cap] 24)) := (Gr.refl w).alloc _
  have HG : Hid (goF (nearF W H n f) f F L l d = if nxF (nearF W H n f) l d < 0 then (bst INF (l : Int) d L).1 else F (nxF (nearF W H n f) l d).toNat + f (nxF (nearF W H n f) l d).toNat) := hide rfl
  go_enter Try.func38, Try.ntmps38
  go_wp2_with fail
  generalize (w.alloc (.cells #[.int .i64 W, .int .i64 H, .slice al n cap] 24)) = w1 at *
  generalize w.heap.size = B0 at *
  refine (snext_any W H al n cap f l d w1 (h.gr hg1)).mono ?_
  rintro e w2 ⟨rfl, hg2⟩
  replace c1 := cell_gr c1 hg2
  replace c2 := cell_gr c2 hg2
  replace c3 := cell_gr c3 hg2
  have hgr := hg1.trans hg2
  have hsl := h.gr hgr
  replace hS := hS.gr hgr
  replace hF := hF.gr hgr
  clear hg1 hg2
  rcases hnc with hz | ⟨q, hz, hqn⟩
  · rw [if_pos hz] at HG
    generalize nxF (nearF W H n f) l d = z at *
    have hz' : z < 0 := hz
    go_wp2_with fail
    refine (best_any bl m c L l d w2 hS).mono ?_
    rintro e w3 ⟨rfl, hg3⟩
    go_wp2_with fail
    go_ret
    exact ⟨ret_int HG.out.symm, hgr.trans hg3⟩
  · rw [hz] at HG ⊢
    obtain ⟨b, o, rfl, hb, hcell⟩ := hsl.at (by omega)
    obtain ⟨b2, o2, rfl, hb2, hcell2⟩ := hF.at (by omega)
    have x1 := hcell q hqn
    have x2 := hcell2 q hqn
    have y1 := hsl.byte q hqn
    have y2 := hFb q hqn
    obtain ⟨v1, hv1⟩ : ∃ v1, v1 = f q := ⟨_, rfl⟩
    obtain ⟨v2, hv2⟩ : ∃ v2, v2 = F q := ⟨_, rfl⟩
    have HV : Hid (goF (nearF W H n f) f F L l d = v2 + v1) := hide (by rw [HG.out, if_neg (by omega), hv1, hv2, Int.toNat_natCast])
    rw [← hv1] at x1 y1
    rw [← hv2] at x2 y2
    have q0 : (0 : Int) ≤ (q : Int) := by omega
    have qn : (q : Int) < (n : Int) := by omega
    have hw1 : IntKind.i64.wrap v1 = v1 := wrapI (by omega)
    have hw2 : IntKind.i64.wrap (v2 + v1) = v2 + v1 := wrapI (by omega)
    clear hcell hcell2 hz HG hv1 hv2 hFb h
    go_wp2_with fail
    go_quiet (fail)
    go_wp2_with fail
    go_ret
    exact ⟨ret_int HV.out.symm, hgr.drewN _⟩

set_option maxHeartbeats 2000000 in
theorem comes_any {W H : Int} {al : Option Addr} {n cap : Nat} {f : Nat → Int} {bl : Option Addr} {m c : Nat} {L : List Sd} {ag : Option Addr} {gc : Nat} {F : Nat → Int} {w : World} {l B4 B5 B6 B7 : Nat} (d : Int)
    (h : Sl w al n f) (hm : mayTB W H n f = true) (hS : SlS w bl m c L) (hF : SlI w ag n F) (hl : l < n) (hFb : ∀ i, i < n → 0 ≤ F i ∧ F i ≤ 1099511627776) (d0 : 0 ≤ d) (d4 : d ≤ 4)
    (c1 : w.cell? ⟨B4, 0, none⟩ = some (.int .i64 W)) (c2 : w.cell? ⟨B4, 1, none⟩ = some (.int .i64 H)) (c3 : w.cell? ⟨B4, 2, none⟩ = some (.slice al n cap)) (c5 : w.cell? ⟨B5, 0, none⟩ = some (.slice bl m c)) (c6 : w.cell? ⟨B6, 0, none⟩ = some (.slice ag n gc)) (c7 : w.cell? ⟨B7, 0, none⟩ = some (.int .i64 (l : Int))) :
    Calls Try.prog 37 #[.int .i64 d, .pointer (some ⟨B4, 0, none⟩), .pointer (some ⟨B5, 0, none⟩), .pointer (some ⟨B6, 0, none⟩), .pointer (some ⟨B7, 0, none⟩)] w fun e w' => e = .returned (.bool (goF (nearF W H n f) f F L l d == F l)) ∧ Gr w w' := by
  obtain ⟨b2, o2, rfl, hb2, hcell2⟩ := hF.at (by omega)
  have x2 := hcell2 l hl
  obtain ⟨v2, hv2⟩ : ∃ v2, v2 = F l := ⟨_, rfl⟩
  rw [← hv2] at x2 ⊢
  have HFB := hide hFb
  have l0 : (0 : Int) ≤ (l : Int) := by omega
  have ln : (l : Int) < (n : Int) := by omega
  clear hcell2 hFb hv2
  go_enter Try.func37, Try.ntmps37
  go_upto_region 1 with fail
  go_region_held3 (fun u => u.cell? ⟨B4, 0, none⟩ = some (.int .i64 W) ∧ u.cell? ⟨B4, 1, none⟩ = some (.int .i64 H) ∧ u.cell? ⟨B4, 2, none⟩ = some (.slice al n cap) ∧ u.cell? ⟨B5, 0, none⟩ = some (.slice bl m c) ∧ u.cell? ⟨B6, 0, none⟩ = some (.slice (some ⟨b2, o2, none⟩) n gc) ∧ u.cell? ⟨B7, 0, none⟩ = some (.int .i64 (l : Int)) ∧ u.cell? ⟨b2, o2 + l, none⟩ = some (.int .i64 v2))
    (first | exact ⟨c1, c2, c3, c5, c6, c7, x2⟩ | exact ⟨cell_gr c1 hg9, cell_gr c2 hg9, cell_gr c3 hg9, cell_gr c5 hg9, cell_gr c6 hg9, cell_gr c7 hg9, cell_gr x2 hg9⟩)
    (first | (go_at_call 38; refine (sby_any l d (h.gr ((Gr.refl w).drew)) hm (hS.gr ((Gr.refl w).drew)) (hF.gr ((Gr.refl w).drew)) hl HFB.out d0 d4).mono ?_; rintro e w3 ⟨rfl, hg3⟩; have hg9 : Gr w w3 := ((Gr.refl w).drew).trans hg3))
  go_wp2_with fail
  go_ret
  exact ⟨rfl, hg9⟩

end Go.Proofs.Ytlnbolaaaahoaaa
