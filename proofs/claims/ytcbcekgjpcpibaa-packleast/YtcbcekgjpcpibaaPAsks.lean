/- PackAsks' walk: it answers true at every input; nothing that was there is written. -/
import Derived.Test.YtcbcekgjpcpibaaPNear2
import Derived.OpenShut
namespace Go.Proofs.Ytcbcekgjpcpibaa
open Go.RowKit

theorem near3_any (W H : Int) (a : Option Addr) (n cap : Nat) (f : Nat → Int) (x y few : Int) (raw : Bool) (w : World) (h : Sl w a n f) (hn : n ≤ 600) (ha : a = none → n = 0 ∧ cap = 0) :
    Calls Try.prog 6 #[.agg #[.int .i64 W, .int .i64 H, .slice a n cap], .int .i64 x, .int .i64 y, .int .i64 few, .bool raw] w fun e w' => (∃ g c' N F W' H', e = .returned (.agg #[.int .i64 W', .int .i64 H', .slice (some ⟨g, 0, none⟩) N c']) ∧ OwnB w' w.heap.size g N c' F) ∧ Gr w w' := by
  cases raw
  · refine (near_made W H a n cap f x y few w h (by unfold maxLen; omega)).mono ?_
    rintro e w1 ⟨⟨g, c', N, F, W', H', rfl, ho, -⟩, hg⟩
    exact ⟨⟨g, c', N, F, W', H', rfl, ho⟩, hg⟩
  · refine (near_raw W H a n cap f x y few w h hn ha).mono ?_
    rintro e w1 ⟨⟨g, c', rfl, ho⟩, hg⟩
    exact ⟨⟨g, c', n, f, W, H, rfl, ho⟩, hg⟩

theorem tri_at3 {w1 : World} {W H : Int} {v : Value} {t : TypeId} : (w1.alloc (.cells #[.int .i64 W, .int .i64 H, v] t)).cell? ⟨w1.heap.size, 0, none⟩ = some (.int .i64 W) ∧ (w1.alloc (.cells #[.int .i64 W, .int .i64 H, v] t)).cell? ⟨w1.heap.size, 1, none⟩ = some (.int .i64 H) ∧ (w1.alloc (.cells #[.int .i64 W, .int .i64 H, v] t)).cell? ⟨w1.heap.size, 2, none⟩ = some v := by
  refine ⟨?_, ?_, ?_⟩ <;> simp [go_sem]

set_option maxHeartbeats 4000000 in
theorem packAsks_any (W H : Int) (a : Option Addr) (n cap : Nat) (f : Nat → Int) (x y few : Int) (raw : Bool) (w : World) (h : Sl w a n f) (ha : a = none → n = 0 ∧ cap = 0) :
    Calls Try.prog 3 #[.agg #[.int .i64 W, .int .i64 H, .slice a n cap], .int .i64 x, .int .i64 y, .int .i64 few, .bool raw] w fun e w' => e = .returned (.bool true) ∧ Gr w w' := by
  by_cases hn6 : 600 < n
  · go_enter Try.func3, Try.ntmps3
    go_wp2_with (go_at_call 5; refine (told3_any _).mono ?_; rintro e w3 ⟨rfl, hg3⟩)
    go_ret
    exact ⟨rfl, (by repeat (first | exact Gr.refl _ | assumption | exact Dr.gr (by assumption) | refine Gr.alloc ?_ _ | refine Gr.drewN ?_ _ | refine Gr.drew ?_ | refine Gr.trans ?_ (by assumption) | refine Gr.trans ?_ (Dr.gr (by assumption))))⟩
  go_enter Try.func3, Try.ntmps3
  go_wp2_with fail
  refine (near3_any _ _ _ _ _ f _ _ _ _ _ (h.gr (by repeat (first | exact Gr.refl _ | assumption | exact Dr.gr (by assumption) | refine Gr.alloc ?_ _ | refine Gr.drewN ?_ _ | refine Gr.drew ?_ | refine Gr.trans ?_ (by assumption) | refine Gr.trans ?_ (Dr.gr (by assumption))))) (by omega) ha).mono ?_
  rintro e w1 ⟨⟨g, c', N, F, W', H', rfl, hown⟩, hg1⟩
  obtain ⟨q1, q2, -, -, hsl⟩ := hown.sl
  obtain ⟨c1, c2, c3⟩ := tri_at3 (w1 := w1) (W := W') (H := H') (v := .slice (some ⟨g, 0, none⟩) N c') (t := 24)
  replace hsl := hsl.gr ((Gr.refl w1).alloc (.cells #[.int .i64 W', .int .i64 H', .slice (some ⟨g, 0, none⟩) N c'] 24))
  have hgr : Gr w (w1.alloc (.cells #[.int .i64 W', .int .i64 H', .slice (some ⟨g, 0, none⟩) N c'] 24)) := (by repeat (first | exact Gr.refl _ | assumption | exact Dr.gr (by assumption) | refine Gr.alloc ?_ _ | refine Gr.drewN ?_ _ | refine Gr.drew ?_ | refine Gr.trans ?_ (by assumption) | refine Gr.trans ?_ (Dr.gr (by assumption))))
  clear hown hg1
  go_wp2_with fail
  generalize (w1.alloc (.cells #[.int .i64 W', .int .i64 H', .slice (some ⟨g, 0, none⟩) N c'] 24)) = u0 at *
  generalize w1.heap.size = B at *
  cases hm : mayTB W' H' N F
  · refine (put_no _ _ _ _ _ F _ hsl hm).mono ?_
    rintro e w2 ⟨rfl, hg2⟩
    replace c1 := cell_gr c1 hg2
    replace c2 := cell_gr c2 hg2
    replace c3 := cell_gr c3 hg2
    go_wp2_with (first | (go_at_call 8; refine (rmayT_any _ _ _ _ _ F _ (hsl.gr (by repeat (first | exact Gr.refl _ | assumption | exact Dr.gr (by assumption) | refine Gr.alloc ?_ _ | refine Gr.drewN ?_ _ | refine Gr.drew ?_ | refine Gr.trans ?_ (by assumption) | refine Gr.trans ?_ (Dr.gr (by assumption)))))).mono ?_; rintro e w3 ⟨rfl, hg3⟩; rw [hm]; replace c1 := cell_gr c1 hg3; replace c2 := cell_gr c2 hg3; replace c3 := cell_gr c3 hg3) | (go_at_call 5; refine (told3_any _).mono ?_; rintro e w4 ⟨rfl, hg4⟩; replace c1 := cell_gr c1 hg4; replace c2 := cell_gr c2 hg4; replace c3 := cell_gr c3 hg4) | (go_at_call 9; refine (form_no _ _ _ _ _ F _ (hsl.gr (by repeat (first | exact Gr.refl _ | assumption | exact Dr.gr (by assumption) | refine Gr.alloc ?_ _ | refine Gr.drewN ?_ _ | refine Gr.drew ?_ | refine Gr.trans ?_ (by assumption) | refine Gr.trans ?_ (Dr.gr (by assumption))))) hm).mono ?_; rintro e w5 ⟨rfl, hg5⟩))
    go_ret
    exact ⟨rfl, (by repeat (first | exact Gr.refl _ | assumption | exact Dr.gr (by assumption) | refine Gr.alloc ?_ _ | refine Gr.drewN ?_ _ | refine Gr.drew ?_ | refine Gr.trans ?_ (by assumption) | refine Gr.trans ?_ (Dr.gr (by assumption))))⟩
  · refine (put_yes _ _ _ _ _ F _ hsl q1 q2 hm).mono ?_
    rintro e w2 ⟨⟨g2, k2, rfl, ho2⟩, hg2⟩
    obtain ⟨n1, n2, -, -⟩ := mayTB_n hm
    replace c1 := cell_gr c1 hg2
    replace c2 := cell_gr c2 hg2
    replace c3 := cell_gr c3 hg2
    have sl2 := ho2.sl.2.2.2.2
    have q := fun u (hg : Gr u0 u) => rput_any W' H' (some ⟨g, 0, none⟩) N c' F u (hsl.gr hg) n1 n2
    clear ho2
    generalize putL N F = L at *
    have HQ := hide q
    clear q
    go_wp2_with (first | (go_at_call 8; refine (rmayT_any _ _ _ _ _ F _ (hsl.gr (by repeat (first | exact Gr.refl _ | assumption | exact Dr.gr (by assumption) | refine Gr.alloc ?_ _ | refine Gr.drewN ?_ _ | refine Gr.drew ?_ | refine Gr.trans ?_ (by assumption) | refine Gr.trans ?_ (Dr.gr (by assumption)))))).mono ?_; rintro e w3 ⟨rfl, hg3⟩; rw [hm]; replace c1 := cell_gr c1 hg3; replace c2 := cell_gr c2 hg3; replace c3 := cell_gr c3 hg3) | (go_at_call 10; refine (HQ.out _ (by repeat (first | exact Gr.refl _ | assumption | exact Dr.gr (by assumption) | refine Gr.alloc ?_ _ | refine Gr.drewN ?_ _ | refine Gr.drew ?_ | refine Gr.trans ?_ (by assumption) | refine Gr.trans ?_ (Dr.gr (by assumption))))).mono ?_; rintro e w6 ⟨⟨g3, k3, rfl, ho3⟩, hg6⟩; have sl3 := ho3.sl.2.2.2.2; clear ho3; replace c1 := cell_gr c1 hg6; replace c2 := cell_gr c2 hg6; replace c3 := cell_gr c3 hg6) | (go_at_call 5; refine (told3_any _).mono ?_; rintro e w4 ⟨rfl, hg4⟩; replace c1 := cell_gr c1 hg4; replace c2 := cell_gr c2 hg4; replace c3 := cell_gr c3 hg4) | (go_at_call 9; refine (form_yes _ _ _ _ _ F _ (hsl.gr (by repeat (first | exact Gr.refl _ | assumption | exact Dr.gr (by assumption) | refine Gr.alloc ?_ _ | refine Gr.drewN ?_ _ | refine Gr.drew ?_ | refine Gr.trans ?_ (by assumption) | refine Gr.trans ?_ (Dr.gr (by assumption))))) q1 q2 hm).mono ?_; rintro e w5 ⟨rfl, hg5⟩) | (go_at_call 11; refine (rbytes_any _ _ _ _ _ _ _ _ _ (sl2.gr (by repeat (first | exact Gr.refl _ | assumption | exact Dr.gr (by assumption) | refine Gr.alloc ?_ _ | refine Gr.drewN ?_ _ | refine Gr.drew ?_ | refine Gr.trans ?_ (by assumption) | refine Gr.trans ?_ (Dr.gr (by assumption))))) (sl3.gr (by repeat (first | exact Gr.refl _ | assumption | exact Dr.gr (by assumption) | refine Gr.alloc ?_ _ | refine Gr.drewN ?_ _ | refine Gr.drew ?_ | refine Gr.trans ?_ (by assumption) | refine Gr.trans ?_ (Dr.gr (by assumption)))))).mono ?_; rintro e w7 ⟨rfl, hw7⟩; subst hw7; rw [sameB_refl]))
    go_ret
    exact ⟨rfl, (by repeat (first | exact Gr.refl _ | assumption | exact Dr.gr (by assumption) | refine Gr.alloc ?_ _ | refine Gr.drewN ?_ _ | refine Gr.drew ?_ | refine Gr.trans ?_ (by assumption) | refine Gr.trans ?_ (Dr.gr (by assumption))))⟩

end Go.Proofs.Ytcbcekgjpcpibaa
