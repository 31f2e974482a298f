/- steer.direction: the first direction by which a distance comes about. No condition. -/
import Derived.Test.YtlnbolaaaahoaaaFSteer10
namespace Go.Proofs.Ytlnbolaaaahoaaa
open Go.RowKit
set_option maxRecDepth 20000

set_option maxHeartbeats 4000000 in
theorem direction_any {W H : Int} {al : Option Addr} {n cap : Nat} {f : Nat → Int} {bl : Option Addr} {m c : Nat} {L : List Sd} {ag : Option Addr} {gc : Nat} {F : Nat → Int} {w : World} (l : Nat)
    (h : Sl w al n f) (hm : mayTB W H n f = true) (hS : SlS w bl m c L) (hF : SlI w ag n F) (hl : l < n) (hFb : ∀ i, i < n → 0 ≤ F i ∧ F i ≤ 1099511627776) :
    Calls Try.prog 26 #[.agg #[.int .i64 W, .int .i64 H, .slice al n cap], .slice bl m c, .slice ag n gc, .int .i64 l] w fun e w' => e = .returned (.int .i64 (dirF (nearF W H n f) f F L l)) ∧ Gr w w' := by
  obtain ⟨c1, c2, c3⟩ := tri_at w W H (.slice al n cap)
  have hg1 : Gr w (w.alloc (.cells #[.int .i64 W, .int .i64 H, .slice al n cap] 24)) := (Gr.refl w).alloc _
  obtain ⟨w1, hw1⟩ : ∃ w1, w1 = w.alloc (.cells #[.int .i64 W, .int .i64 H, .slice al n cap] 24) := ⟨_, rfl⟩
  rw [← hw1] at c1 c2 c3 hg1
  have c5 := cell_new1 w1 (.slice bl m c) 26
  have hg2 : Gr w1 (w1.alloc (.cells #[.slice bl m c] 26)) := (Gr.refl w1).alloc _
  obtain ⟨w2, hw2⟩ : ∃ w2, w2 = w1.alloc (.cells #[.slice bl m c] 26) := ⟨_, rfl⟩
  rw [← hw2] at c5 hg2
  have c6 := cell_new1 w2 (.slice ag n gc) 25
  have hg3 : Gr w2 (w2.alloc (.cells #[.slice ag n gc] 25)) := (Gr.refl w2).alloc _
  obtain ⟨w3, hw3⟩ : ∃ w3, w3 = w2.alloc (.cells #[.slice ag n gc] 25) := ⟨_, rfl⟩
  rw [← hw3] at c6 hg3
  have c7 := cell_new1 w3 (.int .i64 (l : Int)) 3
  have hg4 : Gr w3 (w3.alloc (.cells #[.int .i64 (l : Int)] 3)) := (Gr.refl w3).alloc _
  obtain ⟨w4, hw4⟩ : ∃ w4, w4 = w3.alloc (.cells #[.int .i64 (l : Int)] 3) := ⟨_, rfl⟩
  rw [← hw4] at c7 hg4
  have e1 : w1.heap.size = w.heap.size + 1 := by rw [hw1, World.size_alloc]
  have e2 : w2.heap.size = w.heap.size + 1 + 1 := by rw [hw2, World.size_alloc, e1]
  have e3 : w3.heap.size = w.heap.size + 1 + 1 + 1 := by rw [hw3, World.size_alloc, e2]
  have hg34 := hg3.trans hg4
  have hg24 := hg2.trans hg34
  have hgr := hg1.trans hg24
  replace c1 := cell_gr c1 hg24
  replace c2 := cell_gr c2 hg24
  replace c3 := cell_gr c3 hg24
  replace c5 := cell_gr c5 hg34
  replace c6 := cell_gr c6 hg4
  rw [e1] at c5
  rw [e2] at c6
  rw [e3] at c7
  replace h := h.gr hgr
  replace hS := hS.gr hgr
  replace hF := hF.gr hgr
  have HC : Hid (∀ u, Gr w4 u → ∀ d : Int, 0 ≤ d → d ≤ 4 → Calls Try.prog 37 #[.int .i64 d, .pointer (some ⟨w.heap.size, 0, none⟩), .pointer (some ⟨w.heap.size + 1, 0, none⟩), .pointer (some ⟨w.heap.size + 1 + 1, 0, none⟩), .pointer (some ⟨w.heap.size + 1 + 1 + 1, 0, none⟩)] u fun e w' => e = .returned (.bool (goF (nearF W H n f) f F L l d == F l)) ∧ Gr u w') :=
    hide fun u hu d d0 d4 => comes_any d (h.gr hu) hm (hS.gr hu) (hF.gr hu) hl hFb d0 d4 (cell_gr c1 hu) (cell_gr c2 hu) (cell_gr c3 hu) (cell_gr c5 hu) (cell_gr c6 hu) (cell_gr c7 hu)
  obtain ⟨b2, o2, rfl, hb2, hcell2⟩ := hF.at (by omega)
  have x2 := hcell2 l hl
  have HD : Hid (dirF (nearF W H n f) f F L l = if F l = 1099511627776 then 5 else if goF (nearF W H n f) f F L l 4 = F l then 4 else if goF (nearF W H n f) f F L l 0 = F l then 0 else if goF (nearF W H n f) f F L l 1 = F l then 1 else if goF (nearF W H n f) f F L l 2 = F l then 2 else if goF (nearF W H n f) f F L l 3 = F l then 3 else 5) := hide rfl
  obtain ⟨G, hG⟩ : ∃ G : Int → Int, G = fun d => goF (nearF W H n f) f F L l d := ⟨_, rfl⟩
  have hG' : ∀ d, goF (nearF W H n f) f F L l d = G d := fun d => by rw [hG]
  simp only [hG'] at HC HD
  generalize dirF (nearF W H n f) f F L l = D at *
  obtain ⟨v2, hv2⟩ : ∃ v2, v2 = F l := ⟨_, rfl⟩
  rw [← hv2] at x2 HC HD
  have l0 : (0 : Int) ≤ (l : Int) := by omega
  have ln : (l : Int) < (n : Int) := by omega
  clear hcell2 hFb hv2 hG hG' hg1 hg2 hg3 hg4 hg34 hg24 h hS hF c1 c2 c3 c5
  by_cases hi : v2 = 1099511627776
  · have E : Hid (D = 5) := hide (by rw [HD.out]; simp_all)
    subst hi
    clear HD
    go_enter Try.func26, Try.ntmps26
    go_upto_region 1 with fail
    rw [← hw1, ← hw2, ← hw3, ← hw4]
    clear hw1 hw2 hw3 hw4 e1 e2 e3
    go_wp2_with fail
    go_ret
    exact ⟨ret_int E.out.symm, hgr.trans (by repeat (first | exact Gr.refl _ | assumption | exact Dr.gr (by assumption) | refine Gr.alloc ?_ _ | refine Gr.drewN ?_ _ | refine Gr.drew ?_ | refine Gr.trans ?_ (by assumption) | refine Gr.trans ?_ (Dr.gr (by assumption))))⟩
  by_cases h4 : G 4 = v2
  · have E : Hid (D = 4) := hide (by rw [HD.out]; simp_all)
    have gi : (v2 == 1099511627776) = false := by simpa using hi
    have g4 : (G 4 == v2) = true := by simpa using h4
    clear HD hi h4
    go_enter Try.func26, Try.ntmps26
    go_upto_region 1 with fail
    rw [← hw1, ← hw2, ← hw3, ← hw4]
    clear hw1 hw2 hw3 hw4 e1 e2 e3
    go_wp2_with (go_at_call 37; refine (HC.out _ (by repeat (first | exact Gr.refl _ | assumption | exact Dr.gr (by assumption) | refine Gr.alloc ?_ _ | refine Gr.drewN ?_ _ | refine Gr.drew ?_ | refine Gr.trans ?_ (by assumption) | refine Gr.trans ?_ (Dr.gr (by assumption)))) _ (by omega) (by omega)).mono ?_; rintro e u ⟨rfl, hg⟩; first | rw [g4] | rw [g0] | rw [g1] | rw [g2] | rw [g3])
    go_ret
    exact ⟨ret_int E.out.symm, hgr.trans (by repeat (first | exact Gr.refl _ | assumption | exact Dr.gr (by assumption) | refine Gr.alloc ?_ _ | refine Gr.drewN ?_ _ | refine Gr.drew ?_ | refine Gr.trans ?_ (by assumption) | refine Gr.trans ?_ (Dr.gr (by assumption))))⟩
  by_cases h0 : G 0 = v2
  · have E : Hid (D = 0) := hide (by rw [HD.out]; simp_all)
    have gi : (v2 == 1099511627776) = false := by simpa using hi
    have g4 : (G 4 == v2) = false := by simpa using h4
    have g0 : (G 0 == v2) = true := by simpa using h0
    clear HD hi h4 h0
    go_enter Try.func26, Try.ntmps26
    go_upto_region 1 with fail
    rw [← hw1, ← hw2, ← hw3, ← hw4]
    clear hw1 hw2 hw3 hw4 e1 e2 e3
    go_wp2_with (go_at_call 37; refine (HC.out _ (by repeat (first | exact Gr.refl _ | assumption | exact Dr.gr (by assumption) | refine Gr.alloc ?_ _ | refine Gr.drewN ?_ _ | refine Gr.drew ?_ | refine Gr.trans ?_ (by assumption) | refine Gr.trans ?_ (Dr.gr (by assumption)))) _ (by omega) (by omega)).mono ?_; rintro e u ⟨rfl, hg⟩; first | rw [g4] | rw [g0] | rw [g1] | rw [g2] | rw [g3])
    go_ret
    exact ⟨ret_int E.out.symm, hgr.trans (by repeat (first | exact Gr.refl _ | assumption | exact Dr.gr (by assumption) | refine Gr.alloc ?_ _ | refine Gr.drewN ?_ _ | refine Gr.drew ?_ | refine Gr.trans ?_ (by assumption) | refine Gr.trans ?_ (Dr.gr (by assumption))))⟩
  by_cases h1 : G 1 = v2
  · have E : Hid (D = 1) := hide (by rw [HD.out]; simp_all)
    have gi : (v2 == 1099511627776) = false := by simpa using hi
    have g4 : (G 4 == v2) = false := by simpa using h4
    have g0 : (G 0 == v2) = false := by simpa using h0
    have g1 : (G 1 == v2) = true := by simpa using h1
    clear HD hi h4 h0 h1
    go_enter Try.func26, Try.ntmps26
    go_upto_region 1 with fail
    rw [← hw1, ← hw2, ← hw3, ← hw4]
    clear hw1 hw2 hw3 hw4 e1 e2 e3
    go_wp2_with (go_at_call 37; refine (HC.out _ (by repeat (first | exact Gr.refl _ | assumption | exact Dr.gr (by assumption) | refine Gr.alloc ?_ _ | refine Gr.drewN ?_ _ | refine Gr.drew ?_ | refine Gr.trans ?_ (by assumption) | refine Gr.trans ?_ (Dr.gr (by assumption)))) _ (by omega) (by omega)).mono ?_; rintro e u ⟨rfl, hg⟩; first | rw [g4] | rw [g0] | rw [g1] | rw [g2] | rw [g3])
    go_ret
    exact ⟨ret_int E.out.symm, hgr.trans (by repeat (first | exact Gr.refl _ | assumption | exact Dr.gr (by assumption) | refine Gr.alloc ?_ _ | refine Gr.drewN ?_ _ | refine Gr.drew ?_ | refine Gr.trans ?_ (by assumption) | refine Gr.trans ?_ (Dr.gr (by assumption))))⟩
  by_cases h2 : G 2 = v2
  · have E : Hid (D = 2) := hide (by rw [HD.out]; simp_all)
    have gi : (v2 == 1099511627776) = false := by simpa using hi
    have g4 : (G 4 == v2) = false := by simpa using h4
    have g0 : (G 0 == v2) = false := by simpa using h0
    have g1 : (G 1 == v2) = false := by simpa using h1
    have g2 : (G 2 == v2) = true := by simpa using h2
    clear HD hi h4 h0 h1 h2
    go_enter Try.func26, Try.ntmps26
    go_upto_region 1 with fail
    rw [← hw1, ← hw2, ← hw3, ← hw4]
    clear hw1 hw2 hw3 hw4 e1 e2 e3
    go_wp2_with (go_at_call 37; refine (HC.out _ (by repeat (first | exact Gr.refl _ | assumption | exact Dr.gr (by assumption) | refine Gr.alloc ?_ _ | refine Gr.drewN ?_ _ | refine Gr.drew ?_ | refine Gr.trans ?_ (by assumption) | refine Gr.trans ?_ (Dr.gr (by assumption)))) _ (by omega) (by omega)).mono ?_; rintro e u ⟨rfl, hg⟩; first | rw [g4] | rw [g0] | rw [g1] | rw [g2] | rw [g3])
    go_ret
    exact ⟨ret_int E.out.symm, hgr.trans (by repeat (first | exact Gr.refl _ | assumption | exact Dr.gr (by assumption) | refine Gr.alloc ?_ _ | refine Gr.drewN ?_ _ | refine Gr.drew ?_ | refine Gr.trans ?_ (by assumption) | refine Gr.trans ?_ (Dr.gr (by assumption))))⟩
  by_cases h3 : G 3 = v2
  · have E : Hid (D = 3) := hide (by rw [HD.out]; simp_all)
    have gi : (v2 == 1099511627776) = false := by simpa using hi
    have g4 : (G 4 == v2) = false := by simpa using h4
    have g0 : (G 0 == v2) = false := by simpa using h0
    have g1 : (G 1 == v2) = false := by simpa using h1
    have g2 : (G 2 == v2) = false := by simpa using h2
    have g3 : (G 3 == v2) = true := by simpa using h3
    clear HD hi h4 h0 h1 h2 h3
    go_enter Try.func26, Try.ntmps26
    go_upto_region 1 with fail
    rw [← hw1, ← hw2, ← hw3, ← hw4]
    clear hw1 hw2 hw3 hw4 e1 e2 e3
    go_wp2_with (go_at_call 37; refine (HC.out _ (by repeat (first | exact Gr.refl _ | assumption | exact Dr.gr (by assumption) | refine Gr.alloc ?_ _ | refine Gr.drewN ?_ _ | refine Gr.drew ?_ | refine Gr.trans ?_ (by assumption) | refine Gr.trans ?_ (Dr.gr (by assumption)))) _ (by omega) (by omega)).mono ?_; rintro e u ⟨rfl, hg⟩; first | rw [g4] | rw [g0] | rw [g1] | rw [g2] | rw [g3])
    go_ret
    exact ⟨ret_int E.out.symm, hgr.trans (by repeat (first | exact Gr.refl _ | assumption | exact Dr.gr (by assumption) | refine Gr.alloc ?_ _ | refine Gr.drewN ?_ _ | refine Gr.drew ?_ | refine Gr.trans ?_ (by assumption) | refine Gr.trans ?_ (Dr.gr (by assumption))))⟩
  have E : Hid (D = 5) := hide (by rw [HD.out]; simp_all)
  have gi : (v2 == 1099511627776) = false := by simpa using hi
  have g4 : (G 4 == v2) = false := by simpa using h4
  have g0 : (G 0 == v2) = false := by simpa using h0
  have g1 : (G 1 == v2) = false := by simpa using h1
  have g2 : (G 2 == v2) = false := by simpa using h2
  have g3 : (G 3 == v2) = false := by simpa using h3
  clear HD hi h4 h0 h1 h2 h3
  go_enter Try.func26, Try.ntmps26
  go_upto_region 1 with fail
  rw [← hw1, ← hw2, ← hw3, ← hw4]
  clear hw1 hw2 hw3 hw4 e1 e2 e3
  go_wp2_with (go_at_call 37; refine (HC.out _ (by repeat (first | exact Gr.refl _ | assumption | exact Dr.gr (by assumption) | refine Gr.alloc ?_ _ | refine Gr.drewN ?_ _ | refine Gr.drew ?_ | refine Gr.trans ?_ (by assumption) | refine Gr.trans ?_ (Dr.gr (by assumption)))) _ (by omega) (by omega)).mono ?_; rintro e u ⟨rfl, hg⟩; first | rw [g4] | rw [g0] | rw [g1] | rw [g2] | rw [g3])
  go_ret
  exact ⟨ret_int E.out.symm, hgr.trans (by repeat (first | exact Gr.refl _ | assumption | exact Dr.gr (by assumption) | refine Gr.alloc ?_ _ | refine Gr.drewN ?_ _ | refine Gr.drew ?_ | refine Gr.trans ?_ (by assumption) | refine Gr.trans ?_ (Dr.gr (by assumption))))⟩
end Go.Proofs.Ytlnbolaaaahoaaa
