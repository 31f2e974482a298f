/- steer.Field: distances and directions of a tile. No condition. -/
import Derived.Test.YtlnbolaaaahoaaaFDir10
import Derived.Test.YtlnbolaaaahoaaaBX2
namespace Go.Proofs.Ytlnbolaaaahoaaa
open Go.RowKit
set_option maxRecDepth 20000

/-- a field's two slices, in the box at B -/
def pairF (x y : Value) (i : Nat) : Value := if i = 0 then x else y
theorem pair_alloc (w : World) (x y : Value) (t : TypeId) : (w.alloc (.cells #[x, y] t)).rowIs w.heap.size t 2 (pairF x y) :=
  World.rowIs_alloc w #[x, y] t (pairF x y) (fun i hi => by
    have hi : i < 2 := hi
    rcases (by omega : i = 0 ∨ i = 1) with rfl | rfl <;> rfl)
theorem pair_at {w : World} {B : Nat} {t : TypeId} {x y : Value} (h : w.rowIs B t 2 (pairF x y)) : w.cell? ⟨B, 0, none⟩ = some x ∧ w.cell? ⟨B, 1, none⟩ = some y ∧ (∀ i, w.frozen? ⟨B, i, none⟩ = false) ∧ B < w.heap.size :=
  ⟨h.cell (i := 0) (by omega), h.cell (i := 1) (by omega), fun i => h.frozen i, h.lt⟩
theorem make_dirs (C : Nat) (hc : C ≤ 4096) (w : World) : (Instr.makeSlice 25 (.int .i64 (C : Int)) (.int .i64 (C : Int))).run Try.prog w = .ok (.slice (some ⟨w.heap.size, 0, none⟩) C C) (w.alloc (.cells (madeCells #[.int .i64 0] C) 3)) := by
  obtain ⟨i0, hi, hz0, hz1, hz2⟩ := info_parts info_int
  have hr := run_make (P := Try.prog) w 25 3 i0 (.int .i64 0) Try.underlying25 hi hz0 .i64 .i64 C C (by omega) (by omega) (by rw [hz2]; omega) (by omega)
  simp only [Int.toNat_natCast, hz1, Nat.mul_one] at hr
  exact hr
theorem far_made (w : World) (n : Nat) (hn : n ≤ 4096) : FarS (w.alloc (.cells (madeCells #[.int .i64 0] n) 3)) w.heap.size n n (fun _ => 0) :=
  ⟨Nat.le_refl _, by unfold maxLen; omega, _, World.rowIs_made _ _ _ _, fun _ _ => rfl⟩

set_option maxHeartbeats 1000000 in
theorem field_no {W H : Int} {al : Option Addr} {n cap : Nat} {f : Nat → Int} {bl : Option Addr} {m c : Nat} {L : List Sd} {w : World}
    (h : Sl w al n f) (g : SlS w bl m c L) (hmay : mayS W H n f L = false) :
    Calls Try.prog 13 #[.agg #[.int .i64 W, .int .i64 H, .slice al n cap], .slice bl m c] w fun e w' => e = .returned (.tuple #[.agg #[.slice none 0 0, .slice none 0 0], .int .i64 1]) ∧ Gr w w' := by
  obtain ⟨c1, c2, c3⟩ := tri_at w W H (.slice al n cap)
  have hg1 : Gr w (w.alloc (.cells #[.int .i64 W, .int .i64 H, .slice al n cap] 24)) := (Gr.refl w).alloc _
  obtain ⟨w1, hw1⟩ : ∃ w1, w1 = w.alloc (.cells #[.int .i64 W, .int .i64 H, .slice al n cap] 24) := ⟨_, rfl⟩
  rw [← hw1] at c1 c2 c3 hg1
  have hr := pair_alloc w1 (.slice none 0 0) (.slice none 0 0) 33
  have hg2 : Gr w1 (w1.alloc (.cells #[.slice none 0 0, .slice none 0 0] 33)) := (Gr.refl w1).alloc _
  obtain ⟨w2, hw2⟩ : ∃ w2, w2 = w1.alloc (.cells #[.slice none 0 0, .slice none 0 0] 33) := ⟨_, rfl⟩
  rw [← hw2] at hr hg2
  have e1 : w1.heap.size = w.heap.size + 1 := by rw [hw1, World.size_alloc]
  rw [e1] at hr
  have hgr := hg1.trans hg2
  replace h := h.gr hgr
  replace g := g.gr hgr
  go_enter Try.func13, Try.ntmps13
  go_wp2_with fail
  rw [← hw1, ← hw2]
  clear hw1 hw2 hg1 hg2 e1 c1 c2 c3
  refine (spread_no h g hmay).mono ?_
  rintro e w3 ⟨rfl, hg3⟩
  replace hgr := hgr.trans hg3
  replace hr := row_gr hr hg3
  obtain ⟨y1, y2, y3, y4⟩ := pair_at hr
  go_wp2_with fail
  exact bodyPost_ret (v := .tuple #[.agg #[.slice none 0 0, .slice none 0 0], .int .i64 1]) (by simp [results, Try.results13, go_sem, y1, y2]) rfl ⟨rfl, (by repeat (first | exact Gr.refl _ | assumption | exact Dr.gr (by assumption) | refine Gr.alloc ?_ _ | refine Gr.drewN ?_ _ | refine Gr.drew ?_ | (refine Gr.set ?_ (by first | exact Nat.le_refl _ | exact Nat.le_succ _ | (show _ ≤ _; omega) | (simp only [World.size_alloc] at *; omega)) _) | refine Gr.trans ?_ (by assumption) | refine Gr.trans ?_ (Dr.gr (by assumption))))⟩

set_option maxHeartbeats 4000000 in
theorem field_yes {W H : Int} {al : Option Addr} {n cap : Nat} {f : Nat → Int} {bl : Option Addr} {m c : Nat} {L : List Sd} {K : Int} {w : World}
    (h : Sl w al n f) (g : SlS w bl m c L) (ha : bl = none ∨ ∃ b o, bl = some ⟨b, o, none⟩) (hmay : mayS W H n f L = true) (hs : Sds f n K L) (hK0 : 0 ≤ K) (hK : K ≤ 1073741824) (hm8 : m ≤ 800000) :
    Calls Try.prog 13 #[.agg #[.int .i64 W, .int .i64 H, .slice al n cap], .slice bl m c] w fun e w' => (∃ g1 cf g2 F D, e = .returned (.tuple #[.agg #[.slice (some ⟨g1, 0, none⟩) n cf, .slice (some ⟨g2, 0, none⟩) n n], .int .i64 0]) ∧ FarS w' g1 cf n F ∧ FarS w' g2 n n D ∧ Sprd (nearF W H n f) f n L F ∧ ∀ i, i < n → D i = dirF (nearF W H n f) f F L i) ∧ Gr w w' := by
  have hm := (sds_of h.byte hmay).1
  have hn2 := (mayTB_n hm).2.1
  have hgph := gph_of hm h.byte
  obtain ⟨c1, c2, c3⟩ := tri_at w W H (.slice al n cap)
  have hg1 : Gr w (w.alloc (.cells #[.int .i64 W, .int .i64 H, .slice al n cap] 24)) := (Gr.refl w).alloc _
  obtain ⟨w1, hw1⟩ : ∃ w1, w1 = w.alloc (.cells #[.int .i64 W, .int .i64 H, .slice al n cap] 24) := ⟨_, rfl⟩
  rw [← hw1] at c1 c2 c3 hg1
  have hr := pair_alloc w1 (.slice none 0 0) (.slice none 0 0) 33
  have hg2 : Gr w1 (w1.alloc (.cells #[.slice none 0 0, .slice none 0 0] 33)) := (Gr.refl w1).alloc _
  obtain ⟨w2, hw2⟩ : ∃ w2, w2 = w1.alloc (.cells #[.slice none 0 0, .slice none 0 0] 33) := ⟨_, rfl⟩
  rw [← hw2] at hr hg2
  have e1 : w1.heap.size = w.heap.size + 1 := by rw [hw1, World.size_alloc]
  rw [e1] at hr
  have hgr := hg1.trans hg2
  have h0 := h
  have g0 := g
  replace h := h.gr hgr
  replace g := g.gr hgr
  replace c1 := cell_gr c1 hg2
  replace c2 := cell_gr c2 hg2
  replace c3 := cell_gr c3 hg2
  have HMK := hide (fun u => make_dirs n (by omega) u)
  have HHG := hide hgph
  have HS := hide hs
  go_enter Try.func13, Try.ntmps13
  go_wp2_with fail
  rw [← hw1, ← hw2]
  clear hw1 hw2 hg1 hg2 e1 hgph
  obtain ⟨BT, hBT⟩ : ∃ BT, BT = w.heap.size := ⟨_, rfl⟩
  rw [← hBT] at c1 c2 c3 hr ⊢
  have HBT := hide hBT
  clear hBT
  refine (spread_yes h g ha hmay hs hK0 hK hm8).mono ?_
  rintro e w3 ⟨⟨gf, cf, F, rfl, hge, hfar, hsp, -⟩, hg3⟩
  have hbr := hr.lt
  have hs23 := Below.size hg3
  clear h g
  replace hgr := hgr.trans hg3
  replace hr := row_gr hr hg3
  replace c1 := cell_gr c1 hg3
  replace c2 := cell_gr c2 hg3
  replace c3 := cell_gr c3 hg3
  have HSP := hide hsp
  have HPOS : Hid (∀ i, i < n → 0 ≤ F i ∧ F i ≤ 1099511627776) := hide fun i hi => ⟨hsp.pos HHG.out HS.out hi, hsp.top i hi⟩
  have hne : gf ≠ BT + 1 := by omega
  clear hsp hg3 hmay hs hge
  have hmk := HMK.out w3
  have hfd := far_made w3 n (by omega)
  have hgm : Gr w3 (w3.alloc (.cells (madeCells #[.int .i64 0] n) 3)) := (Gr.refl w3).alloc _
  have hws := hgr.size
  go_upto_region 5 with fail
  generalize (w3.alloc (.cells (madeCells #[.int .i64 0] n) 3)) = w4 at *
  generalize hg2e : w3.heap.size = g2 at *
  clear hmk
  have hflt := hfar.lt
  replace hfar := hfar.gr hgm
  replace hgr := hgr.trans hgm
  replace hr := row_gr hr hgm
  replace c1 := cell_gr c1 hgm
  replace c2 := cell_gr c2 hgm
  replace c3 := cell_gr c3 hgm
  have hne2 : gf ≠ g2 := by omega
  have hne3 : BT + 1 ≠ g2 := by omega
  have hg2w : w.heap.size ≤ g2 := by omega
  have hsd : g2 < w4.heap.size := hfd.lt
  clear hgm hflt hg2e
  go_wp2_with fail
  go_loopw [25] (fun iv u => ∃ (j : Nat) (D : Nat → Int), iv = .int .i64 j ∧ j ≤ n ∧ FarS u g2 n n D ∧ Hid (∀ i, i < j → D i = dirF (nearF W H n f) f F L i) ∧ Kp (fun b => b = g2) w4 u) (fun iv _ => n - (intOf iv).toNat)
  case atStart => exact ⟨0, _, rfl, by omega, hfd, hide (fun i hi => absurd hi (Nat.not_lt_zero _)), Kp.refl _ _⟩
  case round =>
    obtain ⟨j, D, rfl, hj, hD, HDJ, hkp⟩ := hrel
    generalize wr = w5 at *
    clear hfd
    by_cases hjn : j < n
    · have hji : (j : Int) < (n : Int) := by omega
      have hgr5 : Gr w w5 := hkp.gr hgr (fun k e => by omega)
      have d1 := hkp.cell c1 (by omega)
      have d2 := hkp.cell c2 (by omega)
      have d3 := hkp.cell c3 (by omega)
      have hfar5 := hfar.kp hkp hne2
      go_wp2_with fail
      refine (direction_any j (h0.gr hgr5) hm (g0.gr hgr5) hfar5.sli hjn HPOS.out).mono ?_
      rintro e w6 ⟨rfl, hg6⟩
      have hD6 := hD.gr hg6
      have y1 := hD6.cell hjn
      have y2 := hD6.frozen j
      obtain ⟨x, hx⟩ : ∃ x, x = dirF (nearF W H n f) f F L j := ⟨_, rfl⟩
      rw [← hx]
      have HX := hide hx
      clear hx d1 d2 d3
      have j0 : (0 : Int) ≤ (j : Int) := by omega
      go_wp2_with fail
      go_roundw
      case rel =>
        refine ⟨j + 1, _, by go_num, by omega, hD6.set j x, hide (fun i hi => ?_), (hkp.grb hg6).set (.inl rfl) _⟩
        by_cases e : i = j
        · subst e; rw [upF_at]; exact HX.out
        · rw [upF_ne D x e]; exact HDJ.out i (by omega)
      case measure => simp [intOf]; omega
    · obtain rfl : j = n := by omega
      have hgr5 : Gr w w5 := hkp.gr hgr (fun k e => by omega)
      have hfar5 := hfar.kp hkp hne2
      have hr5 := hkp.row hr hne3
      obtain ⟨y1, y2, y3, y4⟩ := pair_at hr5
      have hji : ¬ (j : Int) < (j : Int) := by omega
      have hkp5 : Kp (fun b => b = BT + 1) w5 ((w5.setCell ⟨BT + 1, 0, none⟩ (.slice (some ⟨gf, 0, none⟩) j cf)).setCell ⟨BT + 1, 1, none⟩ (.slice (some ⟨g2, 0, none⟩) j j)) := Kp.set (S := fun b => b = BT + 1) (p := ⟨BT + 1, 1, none⟩) (Kp.set (S := fun b => b = BT + 1) (p := ⟨BT + 1, 0, none⟩) (Kp.refl _ w5) (.inl rfl) _) (.inl rfl) _
      have hfar6 := hfar5.kp hkp5 hne
      have hD6 := hD.kp hkp5 (Ne.symm hne3)
      have hgr6 := hkp5.gr hgr5 (fun k e => by have := HBT.out; omega)
      have HR6 := hide (And.intro hfar6 (And.intro hD6 hgr6))
      clear hkp5 hfar6 hD6 hgr6 hfar5 hD hr5 hkp hr hfar c1 c2 c3
      go_wp2_with fail
      exact bodyPost_ret (v := .tuple #[.agg #[.slice (some ⟨gf, 0, none⟩) j cf, .slice (some ⟨g2, 0, none⟩) j j], .int .i64 0]) (by simp [results, Try.results13, go_sem, y1, y2]) rfl ⟨⟨gf, cf, g2, rfl, F, HR6.out.1, D, HR6.out.2.1, HSP.out, HDJ.out⟩, HR6.out.2.2⟩
end Go.Proofs.Ytlnbolaaaahoaaa
