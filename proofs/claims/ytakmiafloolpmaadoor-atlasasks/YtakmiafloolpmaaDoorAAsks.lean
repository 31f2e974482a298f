/- AtlasAsks' walk: it answers true at every input where the package's variables hold what its text lays; nothing that was there is written. -/
import Derived.Test.YtakmiafloolpmaaDoorATold
import Derived.Test.YtakmiafloolpmaaDoorANear
import Derived.Test.YtakmiafloolpmaaDoorARef2
namespace Go.Proofs.YtakmiafloolpmaaDoor
open Go.RowKit
set_option maxRecDepth 20000

theorem slE (w : World) (a : Option Addr) (f : Nat → Int) : Sl w a 0 f := ⟨fun _ hi => absurd hi (Nat.not_lt_zero _), .inl rfl⟩
theorem box3 (w1 : World) (W H : Int) (g N c' : Nat) (F : Nat → Int) (base : Nat) (hown : OwnB w1 base g N c' F) :
    ((w1.alloc (.cells #[.int .i64 W, .int .i64 H, .slice (some ⟨g, 0, none⟩) N c'] 24)).cell? ⟨w1.heap.size, 0, none⟩ = some (.int .i64 W) ∧ (w1.alloc (.cells #[.int .i64 W, .int .i64 H, .slice (some ⟨g, 0, none⟩) N c'] 24)).cell? ⟨w1.heap.size, 1, none⟩ = some (.int .i64 H) ∧ (w1.alloc (.cells #[.int .i64 W, .int .i64 H, .slice (some ⟨g, 0, none⟩) N c'] 24)).cell? ⟨w1.heap.size, 2, none⟩ = some (.slice (some ⟨g, 0, none⟩) N c')) ∧
    w1.heap.size < (w1.alloc (.cells #[.int .i64 W, .int .i64 H, .slice (some ⟨g, 0, none⟩) N c'] 24)).heap.size ∧ N ≤ c' ∧ c' ≤ maxLen ∧ Sl (w1.alloc (.cells #[.int .i64 W, .int .i64 H, .slice (some ⟨g, 0, none⟩) N c'] 24)) (some ⟨g, 0, none⟩) N F := by
  obtain ⟨q1, q2, -, -, hsl⟩ := hown.sl
  exact ⟨tri_cells w1 W H (.slice (some ⟨g, 0, none⟩) N c') 24, by rw [World.size_alloc]; omega, q1, q2, hsl.gr ((Gr.refl w1).alloc _)⟩

set_option maxHeartbeats 8000000 in
theorem atlasAsks_any (Wx Hy : Int) (a : Option Addr) (n cap : Nat) (f : Nat → Int) (sec : Int) (raw : Bool) (ga : Nat → Addr) (w : World) (h : Sl w a n f) (hn : n ≤ maxLen) (ha : a = none → n = 0 ∧ cap = 0) (hw : Glob w ga) :
    Calls Tryd.prog 3 #[.agg #[.int .i64 Wx, .int .i64 Hy, .slice a n cap], .int .i64 sec, .bool raw] w fun e w' => e = .returned (.bool true) ∧ Gr w w' := by
  have HTD := hide (fun (u : World) (hu : Gr w u) => told4_any ga u (hw.gr hu))
  have hw0 : Gr w (w.alloc (.cells #[.int .i64 Wx, .int .i64 Hy, .slice a n cap] 24)) := (Gr.refl w).alloc _
  by_cases hbig : 2500 < n
  · have hb2 : (2500 : Int) < (n : Int) := by omega
    clear hw
    go_enter Tryd.func3, Tryd.ntmps3
    go_wp2_with (go_at_call 9; refine (HTD.out _ hw0).mono ?_; rintro e w3 ⟨rfl, hg3⟩)
    go_ret
    exact ⟨rfl, hw0.trans hg3⟩
  have hb2 : ¬ (2500 : Int) < (n : Int) := by omega
  have hh := h.gr hw0
  clear hw
  cases raw
  · go_enter Tryd.func3, Tryd.ntmps3
    go_wp2_with fail
    refine (near4_made Wx Hy a n cap f _ hh hn).mono ?_
    rintro e w1 ⟨⟨g, c', N, rfl, hN, hown⟩, hg1⟩
    have hm0 := madeM_may h.byte hN
    have xb := within_bd Wx 1 40 (by omega)
    have yb := within_bd Hy 1 40 (by omega)
    generalize withinF Wx 1 40 = W at *
    generalize withinF Hy 1 40 = H at *
    generalize madeF n f = F at *
    have hFb := hown.byte
    obtain ⟨⟨c1, c2, c3⟩, z7, q1, q2, hsl⟩ := box3 w1 W H g N c' F _ hown
    have hgr : Gr w (w1.alloc (.cells #[.int .i64 W, .int .i64 H, .slice (some ⟨g, 0, none⟩) N c'] 24)) := (hw0.trans hg1).alloc _
    clear hown hg1 h hh hn hN xb yb hw0 ha
    go_wp2_with fail
    generalize (w1.alloc (.cells #[.int .i64 W, .int .i64 H, .slice (some ⟨g, 0, none⟩) N c'] 24)) = u1 at *
    generalize w1.heap.size = B7 at *
    refine (rcount_any W H _).mono ?_
    rintro e w2 ⟨rfl, hd2⟩
    have hg2 := Dr.gr hd2
    have cb0 := count_bd W H
    replace c1 := cell_gr c1 hg2
    replace c2 := cell_gr c2 hg2
    replace c3 := cell_gr c3 hg2
    replace hsl := hsl.gr hg2
    replace hgr := hgr.trans hg2
    clear hd2 hg2 z7
    go_wp2_with fail
    refine (within_st _ _ _ _ (by omega) (by omega) (by omega)).mono ?_
    rintro e w3 ⟨rfl, hw3⟩
    subst hw3
    generalize withinF sec (-1) (countF W H) = S at *
    have z7 : B7 < w3.heap.size := World.block_lt_of_cell? w3 ⟨B7, 0, none⟩ c1
    generalize w3 = u1 at *
    clear cb0 hm0
    cases hm : mayM W H N F
    · have HM := hide hm
      go_wp2_with fail
      refine (aput_no W H (some ⟨g, 0, none⟩) N c' F _ hsl hm).mono ?_
      rintro e w2 ⟨rfl, hg2⟩
      replace c1 := cell_gr c1 hg2
      replace c2 := cell_gr c2 hg2
      replace c3 := cell_gr c3 hg2
      replace hsl := hsl.gr hg2
      replace hgr := hgr.trans hg2
      clear hg2 z7
      go_wp2_with fail
      refine (atile_no W H (some ⟨g, 0, none⟩) N c' F S _ hsl (.inl hm)).mono ?_
      rintro e w3 ⟨rfl, hg3⟩
      replace c1 := cell_gr c1 hg3
      replace c2 := cell_gr c2 hg3
      replace c3 := cell_gr c3 hg3
      replace hsl := hsl.gr hg3
      replace hgr := hgr.trans hg3
      have z7 : B7 < w3.heap.size := World.block_lt_of_cell? w3 ⟨B7, 0, none⟩ c1
      obtain ⟨x1, x2, x3⟩ := tri_cells w3 0 0 (.slice none 0 0) 31
      have ga3 := (Gr.refl w3).alloc (.cells #[.int .i64 0, .int .i64 0, .slice none 0 0] 31)
      go_wp2_with fail
      replace c1 := cell_gr c1 ga3
      replace c2 := cell_gr c2 ga3
      replace c3 := cell_gr c3 ga3
      replace hsl := hsl.gr ga3
      replace hgr := hgr.trans ga3
      clear ga3 hg3 z7
      generalize (w3.alloc (.cells #[.int .i64 0, .int .i64 0, .slice none 0 0] 31)) = u3 at *
      generalize w3.heap.size = B10 at *
      refine (rmayM_any W H (some ⟨g, 0, none⟩) N c' F _ hsl).mono ?_
      rintro e w4 ⟨rfl, hg4⟩
      rw [hm]
      replace c1 := cell_gr c1 hg4
      replace c2 := cell_gr c2 hg4
      replace c3 := cell_gr c3 hg4
      replace x1 := cell_gr x1 hg4
      replace x2 := cell_gr x2 hg4
      replace x3 := cell_gr x3 hg4
      replace hsl := hsl.gr hg4
      replace hgr := hgr.trans hg4
      clear hg4
      go_wp2_with fail
      refine (HTD.out _ hgr).mono ?_
      rintro e w5 ⟨rfl, hg5⟩
      replace c1 := cell_gr c1 hg5
      replace c2 := cell_gr c2 hg5
      replace c3 := cell_gr c3 hg5
      replace x1 := cell_gr x1 hg5
      replace x2 := cell_gr x2 hg5
      replace x3 := cell_gr x3 hg5
      replace hsl := hsl.gr hg5
      replace hgr := hgr.trans hg5
      clear hg5
      go_wp2_with fail
      refine (amay_any W H (some ⟨g, 0, none⟩) N c' F _ hsl).mono ?_
      rintro e w6 ⟨rfl, hg6⟩
      rw [hm]
      replace x1 := cell_gr x1 hg6
      replace x2 := cell_gr x2 hg6
      replace x3 := cell_gr x3 hg6
      go_wp2_with fail
      go_ret
      exact ⟨ret_bool (by simp), hgr.trans hg6⟩
    · have cb := count_bd W H
      have hlen := made_len hm hFb
      have HM := hide hm
      have HPM := hide (fun (u : World) (hu : Sl u (some ⟨g, 0, none⟩) N F) => rputM_any W H (some ⟨g, 0, none⟩) N c' F u hu hm)
      go_wp2_with fail
      refine (aput_yes W H (some ⟨g, 0, none⟩) N c' F _ hsl q1 hm).mono ?_
      rintro e w2 ⟨⟨g2, k2, rfl, ho2⟩, hg2⟩
      have sl2 := ho2.sl.2.2.2.2
      have HSB := hide (sameB_refl (putM W H F).length (at0 (putM W H F)))
      generalize putM W H F = L at *
      replace c1 := cell_gr c1 hg2
      replace c2 := cell_gr c2 hg2
      replace c3 := cell_gr c3 hg2
      replace hsl := hsl.gr hg2
      replace hgr := hgr.trans hg2
      clear hg2 z7 ho2
      go_wp2_with fail
      cases hs : isSectorB W H S
      · have hsr : S < 0 ∨ countF W H - 1 < S := by
          have n : ¬ (0 ≤ S ∧ S ≤ countF W H - 1) := fun h => by rw [(count_iff W H S).2 h] at hs; cases hs
          omega
        refine (atile_no W H (some ⟨g, 0, none⟩) N c' F S _ hsl (.inr hs)).mono ?_
        rintro e w3 ⟨rfl, hg3⟩
        replace c1 := cell_gr c1 hg3
        replace c2 := cell_gr c2 hg3
        replace c3 := cell_gr c3 hg3
        replace hsl := hsl.gr hg3
        replace sl2 := sl2.gr hg3
        replace hgr := hgr.trans hg3
        have z7 : B7 < w3.heap.size := World.block_lt_of_cell? w3 ⟨B7, 0, none⟩ c1
        obtain ⟨x1, x2, x3⟩ := tri_cells w3 0 0 (.slice none 0 0) 31
        have ga3 := (Gr.refl w3).alloc (.cells #[.int .i64 0, .int .i64 0, .slice none 0 0] 31)
        go_wp2_with fail
        replace c1 := cell_gr c1 ga3
        replace c2 := cell_gr c2 ga3
        replace c3 := cell_gr c3 ga3
        replace hsl := hsl.gr ga3
        replace sl2 := sl2.gr ga3
        replace hgr := hgr.trans ga3
        clear ga3 hg3 z7
        generalize (w3.alloc (.cells #[.int .i64 0, .int .i64 0, .slice none 0 0] 31)) = u3 at *
        generalize w3.heap.size = B10 at *
        refine (rmayM_any W H (some ⟨g, 0, none⟩) N c' F _ hsl).mono ?_
        rintro e w4 ⟨rfl, hg4⟩
        rw [hm]
        replace c1 := cell_gr c1 hg4
        replace c2 := cell_gr c2 hg4
        replace c3 := cell_gr c3 hg4
        replace x1 := cell_gr x1 hg4
        replace x2 := cell_gr x2 hg4
        replace x3 := cell_gr x3 hg4
        replace hsl := hsl.gr hg4
        replace sl2 := sl2.gr hg4
        replace hgr := hgr.trans hg4
        have z7 : B7 < w4.heap.size := World.block_lt_of_cell? w4 ⟨B7, 0, none⟩ c1
        have z10 : B10 < w4.heap.size := World.block_lt_of_cell? w4 ⟨B10, 0, none⟩ x1
        have R12 := tri_alloc w4 (.int .i64 0) (.int .i64 0) (.slice none 0 0) 31
        have ga4 := (Gr.refl w4).alloc (.cells #[.int .i64 0, .int .i64 0, .slice none 0 0] 31)
        clear hg4
        go_wp2_with fail
        replace c1 := cell_gr c1 ga4
        replace c2 := cell_gr c2 ga4
        replace c3 := cell_gr c3 ga4
        replace x1 := cell_gr x1 ga4
        replace x2 := cell_gr x2 ga4
        replace x3 := cell_gr x3 ga4
        replace hsl := hsl.gr ga4
        replace sl2 := sl2.gr ga4
        replace hgr := hgr.trans ga4
        have n7 : B7 ≠ w4.heap.size := by omega
        have n10 : B10 ≠ w4.heap.size := by omega
        clear ga4 z7 z10
        generalize (w4.alloc (.cells #[.int .i64 0, .int .i64 0, .slice none 0 0] 31)) = u4 at *
        generalize w4.heap.size = B12 at *
        refine (rcount_any W H _).mono ?_
        rintro e w5 ⟨rfl, hd5⟩
        have hg5 := Dr.gr hd5
        clear hd5
        replace c1 := cell_gr c1 hg5
        replace c2 := cell_gr c2 hg5
        replace c3 := cell_gr c3 hg5
        replace x1 := cell_gr x1 hg5
        replace x2 := cell_gr x2 hg5
        replace x3 := cell_gr x3 hg5
        replace hsl := hsl.gr hg5
        replace sl2 := sl2.gr hg5
        replace hgr := hgr.trans hg5
        replace R12 := row_gr R12 hg5
        clear hg5
        go_wp2_with fail
        refine (in_no _ _ _ _ (by omega)).mono ?_
        rintro e w6 ⟨rfl, hd6⟩
        have hg6 := Dr.gr hd6
        clear hd6
        replace c1 := cell_gr c1 hg6
        replace c2 := cell_gr c2 hg6
        replace c3 := cell_gr c3 hg6
        replace x1 := cell_gr x1 hg6
        replace x2 := cell_gr x2 hg6
        replace x3 := cell_gr x3 hg6
        replace hsl := hsl.gr hg6
        replace sl2 := sl2.gr hg6
        replace hgr := hgr.trans hg6
        replace R12 := row_gr R12 hg6
        clear hg6
        obtain ⟨y1, y2, y3, -, -, -⟩ := row_cells R12
        go_wp2_with fail
        refine (HTD.out _ hgr).mono ?_
        rintro e w8 ⟨rfl, hg8⟩
        replace c1 := cell_gr c1 hg8
        replace c2 := cell_gr c2 hg8
        replace c3 := cell_gr c3 hg8
        replace x1 := cell_gr x1 hg8
        replace x2 := cell_gr x2 hg8
        replace x3 := cell_gr x3 hg8
        replace y1 := cell_gr y1 hg8
        replace y2 := cell_gr y2 hg8
        replace y3 := cell_gr y3 hg8
        replace hsl := hsl.gr hg8
        replace sl2 := sl2.gr hg8
        have hgr8 := hgr.trans hg8
        clear hg8
        go_wp2_with fail
        refine (amay_any W H (some ⟨g, 0, none⟩) N c' F _ hsl).mono ?_
        rintro e w9 ⟨rfl, hg9⟩
        rw [hm]
        replace c1 := cell_gr c1 hg9
        replace c2 := cell_gr c2 hg9
        replace c3 := cell_gr c3 hg9
        replace x1 := cell_gr x1 hg9
        replace x2 := cell_gr x2 hg9
        replace x3 := cell_gr x3 hg9
        replace y1 := cell_gr y1 hg9
        replace y2 := cell_gr y2 hg9
        replace y3 := cell_gr y3 hg9
        replace hsl := hsl.gr hg9
        replace sl2 := sl2.gr hg9
        replace hgr8 := hgr8.trans hg9
        clear hg9
        go_wp2_with fail
        refine (HPM.out _ hsl).mono ?_
        rintro e w10 ⟨⟨g10, k10, rfl, ho10⟩, hg10⟩
        replace c1 := cell_gr c1 hg10
        replace c2 := cell_gr c2 hg10
        replace c3 := cell_gr c3 hg10
        replace x1 := cell_gr x1 hg10
        replace x2 := cell_gr x2 hg10
        replace x3 := cell_gr x3 hg10
        replace y1 := cell_gr y1 hg10
        replace y2 := cell_gr y2 hg10
        replace y3 := cell_gr y3 hg10
        replace sl2 := sl2.gr hg10
        replace hgr8 := hgr8.trans hg10
        have sl10 := ho10.sl.2.2.2.2
        clear hg10 ho10 hsl
        go_wp2_with fail
        refine (rbytes_any _ _ _ _ _ _ (at0 L) (at0 L) _ sl2 sl10).mono ?_
        rintro e w11 ⟨rfl, hw11⟩
        subst hw11
        rw [HSB.out]
        go_wp2_with fail
        refine (rsameT_any 0 0 0 0 none none 0 0 0 0 F F _ (slE _ _ F) (slE _ _ F)).mono ?_
        rintro e w12 ⟨rfl, hg12⟩
        rw [sameTB_of (W := 0) (H := 0) (n := 0) (m := 0) (f := F) (g := F) rfl (fun _ _ => rfl)]
        go_wp2_with fail
        go_ret
        exact ⟨ret_bool (by simp), hgr8.trans hg12⟩
      · have hsr := (count_iff W H S).1 hs
        obtain ⟨s, hsS⟩ : ∃ s : Nat, S = s := ⟨S.toNat, by omega⟩
        have hsC : s < cntS W H := by have := cntS_int W H; omega
        subst hsS
        have HTO := hide (fun (u : World) (hu : Sl u (some ⟨g, 0, none⟩) N F) => rtileOf_any W H (some ⟨g, 0, none⟩) N c' F s u hu hm hsC)
        have HSM := hide (sameTB_of (W := twF W s) (H := thF W H s) (n := tnF W H s) (m := tnF W H s) (f := tileF W s F) (g := tileF W s F) rfl (fun _ _ => rfl))
        refine (atile_yes W H (some ⟨g, 0, none⟩) N c' F s _ hsl q1 hm hsC).mono ?_
        rintro e w3 ⟨⟨g3, k3, rfl, ho3⟩, hg3⟩
        have sl3 := ho3.sl.2.2.2.2
        have TN1 : 1 ≤ tnF W H s := (tnF_eq hs).2.1
        have hL1 : 1 ≤ L.length := by omega
        have hN1 : 1 ≤ N := by
          obtain ⟨hmb, hNN, -⟩ := (mayM_iff _ _ _ _).1 hm
          have := may_mul hmb
          omega
        generalize twF W s = TW at *
        generalize thF W H s = TH at *
        generalize tnF W H s = TN at *
        generalize tileF W s F = TF at *
        replace c1 := cell_gr c1 hg3
        replace c2 := cell_gr c2 hg3
        replace c3 := cell_gr c3 hg3
        replace hsl := hsl.gr hg3
        replace sl2 := sl2.gr hg3
        replace hgr := hgr.trans hg3
        have z7 : B7 < w3.heap.size := World.block_lt_of_cell? w3 ⟨B7, 0, none⟩ c1
        obtain ⟨x1, x2, x3⟩ := tri_cells w3 TW TH (.slice (some ⟨g3, 0, none⟩) TN k3) 31
        have ga3 := (Gr.refl w3).alloc (.cells #[.int .i64 TW, .int .i64 TH, .slice (some ⟨g3, 0, none⟩) TN k3] 31)
        go_wp2_with fail
        replace c1 := cell_gr c1 ga3
        replace c2 := cell_gr c2 ga3
        replace c3 := cell_gr c3 ga3
        replace hsl := hsl.gr ga3
        replace sl2 := sl2.gr ga3
        replace hgr := hgr.trans ga3
        replace sl3 := sl3.gr ga3
        clear ga3 hg3 z7
        generalize (w3.alloc (.cells #[.int .i64 TW, .int .i64 TH, .slice (some ⟨g3, 0, none⟩) TN k3] 31)) = u3 at *
        generalize w3.heap.size = B10 at *
        refine (rmayM_any W H (some ⟨g, 0, none⟩) N c' F _ hsl).mono ?_
        rintro e w4 ⟨rfl, hg4⟩
        rw [hm]
        replace c1 := cell_gr c1 hg4
        replace c2 := cell_gr c2 hg4
        replace c3 := cell_gr c3 hg4
        replace x1 := cell_gr x1 hg4
        replace x2 := cell_gr x2 hg4
        replace x3 := cell_gr x3 hg4
        replace hsl := hsl.gr hg4
        replace sl2 := sl2.gr hg4
        replace hgr := hgr.trans hg4
        replace sl3 := sl3.gr hg4
        have z7 : B7 < w4.heap.size := World.block_lt_of_cell? w4 ⟨B7, 0, none⟩ c1
        have z10 : B10 < w4.heap.size := World.block_lt_of_cell? w4 ⟨B10, 0, none⟩ x1
        have R12 := tri_alloc w4 (.int .i64 0) (.int .i64 0) (.slice none 0 0) 31
        have ga4 := (Gr.refl w4).alloc (.cells #[.int .i64 0, .int .i64 0, .slice none 0 0] 31)
        clear hg4
        go_wp2_with fail
        replace c1 := cell_gr c1 ga4
        replace c2 := cell_gr c2 ga4
        replace c3 := cell_gr c3 ga4
        replace x1 := cell_gr x1 ga4
        replace x2 := cell_gr x2 ga4
        replace x3 := cell_gr x3 ga4
        have hB12 := hgr.size
        replace hsl := hsl.gr ga4
        replace sl2 := sl2.gr ga4
        replace hgr := hgr.trans ga4
        replace sl3 := sl3.gr ga4
        have n7 : B7 ≠ w4.heap.size := by omega
        have n10 : B10 ≠ w4.heap.size := by omega
        clear ga4 z7 z10
        generalize (w4.alloc (.cells #[.int .i64 0, .int .i64 0, .slice none 0 0] 31)) = u4 at *
        generalize w4.heap.size = B12 at *
        refine (rcount_any W H _).mono ?_
        rintro e w5 ⟨rfl, hd5⟩
        have hg5 := Dr.gr hd5
        clear hd5
        replace c1 := cell_gr c1 hg5
        replace c2 := cell_gr c2 hg5
        replace c3 := cell_gr c3 hg5
        replace x1 := cell_gr x1 hg5
        replace x2 := cell_gr x2 hg5
        replace x3 := cell_gr x3 hg5
        replace hsl := hsl.gr hg5
        replace sl2 := sl2.gr hg5
        replace hgr := hgr.trans hg5
        replace R12 := row_gr R12 hg5
        replace sl3 := sl3.gr hg5
        clear hg5
        go_wp2_with fail
        refine (in_yes _ _ _ _ (by omega) (by omega)).mono ?_
        rintro e w6 ⟨rfl, hd6⟩
        have hg6 := Dr.gr hd6
        clear hd6
        replace c1 := cell_gr c1 hg6
        replace c2 := cell_gr c2 hg6
        replace c3 := cell_gr c3 hg6
        replace x1 := cell_gr x1 hg6
        replace x2 := cell_gr x2 hg6
        replace x3 := cell_gr x3 hg6
        replace hsl := hsl.gr hg6
        replace sl2 := sl2.gr hg6
        replace hgr := hgr.trans hg6
        replace R12 := row_gr R12 hg6
        replace sl3 := sl3.gr hg6
        clear hg6
        go_wp2_with fail
        refine (HTO.out _ hsl).mono ?_
        rintro e w7 ⟨⟨g7, k7, rfl, ho7⟩, hg7⟩
        have sl7 := ho7.sl.2.2.2.2
        replace c1 := cell_gr c1 hg7
        replace c2 := cell_gr c2 hg7
        replace c3 := cell_gr c3 hg7
        replace x1 := cell_gr x1 hg7
        replace x2 := cell_gr x2 hg7
        replace x3 := cell_gr x3 hg7
        replace hsl := hsl.gr hg7
        replace sl2 := sl2.gr hg7
        replace hgr := hgr.trans hg7
        replace R12 := row_gr R12 hg7
        replace sl3 := sl3.gr hg7
        obtain ⟨y1, y2, y3, j1, j2, j3⟩ := row_cells R12
        have a2 := sl_apart sl7 TN1 y1
        have a3 := sl_apart sl3 TN1 y1
        have a4 := sl_apart sl2 hL1 y1
        have a5 := sl_apart hsl hN1 y1
        have hgs := gr_set3 (x := .int .i64 TW) (y := .int .i64 TH) (z := .slice (some ⟨g7, 0, none⟩) TN k7) hgr hB12
        have R13 := row_set3 (u0 := .int .i64 TW) (u1 := .int .i64 TH) (u2 := .slice (some ⟨g7, 0, none⟩) TN k7) R12
        replace sl7 := ((sl7.setF (p := ⟨B12, 0, none⟩) (v := .int .i64 TW) a2).setF (p := ⟨B12, 1, none⟩) (v := .int .i64 TH) a2).setF (p := ⟨B12, 2, none⟩) (v := .slice (some ⟨g7, 0, none⟩) TN k7) a2
        replace sl3 := ((sl3.setF (p := ⟨B12, 0, none⟩) (v := .int .i64 TW) a3).setF (p := ⟨B12, 1, none⟩) (v := .int .i64 TH) a3).setF (p := ⟨B12, 2, none⟩) (v := .slice (some ⟨g7, 0, none⟩) TN k7) a3
        replace sl2 := ((sl2.setF (p := ⟨B12, 0, none⟩) (v := .int .i64 TW) a4).setF (p := ⟨B12, 1, none⟩) (v := .int .i64 TH) a4).setF (p := ⟨B12, 2, none⟩) (v := .slice (some ⟨g7, 0, none⟩) TN k7) a4
        replace hsl := ((hsl.setF (p := ⟨B12, 0, none⟩) (v := .int .i64 TW) a5).setF (p := ⟨B12, 1, none⟩) (v := .int .i64 TH) a5).setF (p := ⟨B12, 2, none⟩) (v := .slice (some ⟨g7, 0, none⟩) TN k7) a5
        replace c1 := cell_far3 (x := .int .i64 TW) (y := .int .i64 TH) (z := .slice (some ⟨g7, 0, none⟩) TN k7) c1 n7
        replace c2 := cell_far3 (x := .int .i64 TW) (y := .int .i64 TH) (z := .slice (some ⟨g7, 0, none⟩) TN k7) c2 n7
        replace c3 := cell_far3 (x := .int .i64 TW) (y := .int .i64 TH) (z := .slice (some ⟨g7, 0, none⟩) TN k7) c3 n7
        replace x1 := cell_far3 (x := .int .i64 TW) (y := .int .i64 TH) (z := .slice (some ⟨g7, 0, none⟩) TN k7) x1 n10
        replace x2 := cell_far3 (x := .int .i64 TW) (y := .int .i64 TH) (z := .slice (some ⟨g7, 0, none⟩) TN k7) x2 n10
        replace x3 := cell_far3 (x := .int .i64 TW) (y := .int .i64 TH) (z := .slice (some ⟨g7, 0, none⟩) TN k7) x3 n10
        clear hgr R12 hg7 ho7 a2 a3 a4 a5
        go_wp2_with fail
        clear y1 y2 y3 j1 j2 j3
        generalize (((w7.setCell ⟨B12, 0, none⟩ (.int .i64 TW)).setCell ⟨B12, 1, none⟩ (.int .i64 TH)).setCell ⟨B12, 2, none⟩ (.slice (some ⟨g7, 0, none⟩) TN k7)) = u7 at *
        obtain ⟨y1, y2, y3, -, -, -⟩ := row_cells R13
        refine (HTD.out _ hgs).mono ?_
        rintro e w8 ⟨rfl, hg8⟩
        replace c1 := cell_gr c1 hg8
        replace c2 := cell_gr c2 hg8
        replace c3 := cell_gr c3 hg8
        replace x1 := cell_gr x1 hg8
        replace x2 := cell_gr x2 hg8
        replace x3 := cell_gr x3 hg8
        replace y1 := cell_gr y1 hg8
        replace y2 := cell_gr y2 hg8
        replace y3 := cell_gr y3 hg8
        replace hsl := hsl.gr hg8
        replace sl2 := sl2.gr hg8
        have hgr8 := hgs.trans hg8
        replace sl3 := sl3.gr hg8
        replace sl7 := sl7.gr hg8
        clear hg8
        go_wp2_with fail
        refine (amay_any W H (some ⟨g, 0, none⟩) N c' F _ hsl).mono ?_
        rintro e w9 ⟨rfl, hg9⟩
        rw [hm]
        replace c1 := cell_gr c1 hg9
        replace c2 := cell_gr c2 hg9
        replace c3 := cell_gr c3 hg9
        replace x1 := cell_gr x1 hg9
        replace x2 := cell_gr x2 hg9
        replace x3 := cell_gr x3 hg9
        replace y1 := cell_gr y1 hg9
        replace y2 := cell_gr y2 hg9
        replace y3 := cell_gr y3 hg9
        replace hsl := hsl.gr hg9
        replace sl2 := sl2.gr hg9
        replace hgr8 := hgr8.trans hg9
        replace sl3 := sl3.gr hg9
        replace sl7 := sl7.gr hg9
        clear hg9
        go_wp2_with fail
        refine (HPM.out _ hsl).mono ?_
        rintro e w10 ⟨⟨g10, k10, rfl, ho10⟩, hg10⟩
        replace c1 := cell_gr c1 hg10
        replace c2 := cell_gr c2 hg10
        replace c3 := cell_gr c3 hg10
        replace x1 := cell_gr x1 hg10
        replace x2 := cell_gr x2 hg10
        replace x3 := cell_gr x3 hg10
        replace y1 := cell_gr y1 hg10
        replace y2 := cell_gr y2 hg10
        replace y3 := cell_gr y3 hg10
        replace sl2 := sl2.gr hg10
        replace hgr8 := hgr8.trans hg10
        replace sl3 := sl3.gr hg10
        replace sl7 := sl7.gr hg10
        have sl10 := ho10.sl.2.2.2.2
        clear hg10 ho10 hsl
        go_wp2_with fail
        refine (rbytes_any _ _ _ _ _ _ (at0 L) (at0 L) _ sl2 sl10).mono ?_
        rintro e w11 ⟨rfl, hw11⟩
        subst hw11
        rw [HSB.out]
        go_wp2_with fail
        refine (rsameT_any TW TH TW TH (some ⟨g3, 0, none⟩) (some ⟨g7, 0, none⟩) TN k3 TN k7 TF TF _ sl3 sl7).mono ?_
        rintro e w12 ⟨rfl, hg12⟩
        rw [HSM.out]
        go_wp2_with fail
        go_ret
        exact ⟨ret_bool (by simp), hgr8.trans hg12⟩
  · go_enter Tryd.func3, Tryd.ntmps3
    go_wp2_with fail
    refine (near4_raw Wx Hy a n cap f _ hh (by omega) ha).mono ?_
    rintro e w1 ⟨⟨g, c', rfl, hown⟩, hg1⟩
    generalize Wx = W at *
    generalize Hy = H at *
    generalize sec = S at *
    generalize hFF : f = F at *
    generalize hNn : n = N at *
    have hFb := hown.byte
    obtain ⟨⟨c1, c2, c3⟩, z7, q1, q2, hsl⟩ := box3 w1 W H g N c' F _ hown
    have hgr : Gr w (w1.alloc (.cells #[.int .i64 W, .int .i64 H, .slice (some ⟨g, 0, none⟩) N c'] 24)) := (hw0.trans hg1).alloc _
    clear hown hg1 h hh hn hw0 ha hFF
    go_wp2_with fail
    generalize (w1.alloc (.cells #[.int .i64 W, .int .i64 H, .slice (some ⟨g, 0, none⟩) N c'] 24)) = u1 at *
    generalize w1.heap.size = B7 at *
    cases hm : mayM W H N F
    · have HM := hide hm
      go_wp2_with fail
      refine (aput_no W H (some ⟨g, 0, none⟩) N c' F _ hsl hm).mono ?_
      rintro e w2 ⟨rfl, hg2⟩
      replace c1 := cell_gr c1 hg2
      replace c2 := cell_gr c2 hg2
      replace c3 := cell_gr c3 hg2
      replace hsl := hsl.gr hg2
      replace hgr := hgr.trans hg2
      clear hg2 z7
      go_wp2_with fail
      refine (atile_no W H (some ⟨g, 0, none⟩) N c' F S _ hsl (.inl hm)).mono ?_
      rintro e w3 ⟨rfl, hg3⟩
      replace c1 := cell_gr c1 hg3
      replace c2 := cell_gr c2 hg3
      replace c3 := cell_gr c3 hg3
      replace hsl := hsl.gr hg3
      replace hgr := hgr.trans hg3
      have z7 : B7 < w3.heap.size := World.block_lt_of_cell? w3 ⟨B7, 0, none⟩ c1
      obtain ⟨x1, x2, x3⟩ := tri_cells w3 0 0 (.slice none 0 0) 31
      have ga3 := (Gr.refl w3).alloc (.cells #[.int .i64 0, .int .i64 0, .slice none 0 0] 31)
      go_wp2_with fail
      replace c1 := cell_gr c1 ga3
      replace c2 := cell_gr c2 ga3
      replace c3 := cell_gr c3 ga3
      replace hsl := hsl.gr ga3
      replace hgr := hgr.trans ga3
      clear ga3 hg3 z7
      generalize (w3.alloc (.cells #[.int .i64 0, .int .i64 0, .slice none 0 0] 31)) = u3 at *
      generalize w3.heap.size = B10 at *
      refine (rmayM_any W H (some ⟨g, 0, none⟩) N c' F _ hsl).mono ?_
      rintro e w4 ⟨rfl, hg4⟩
      rw [hm]
      replace c1 := cell_gr c1 hg4
      replace c2 := cell_gr c2 hg4
      replace c3 := cell_gr c3 hg4
      replace x1 := cell_gr x1 hg4
      replace x2 := cell_gr x2 hg4
      replace x3 := cell_gr x3 hg4
      replace hsl := hsl.gr hg4
      replace hgr := hgr.trans hg4
      clear hg4
      go_wp2_with fail
      refine (HTD.out _ hgr).mono ?_
      rintro e w5 ⟨rfl, hg5⟩
      replace c1 := cell_gr c1 hg5
      replace c2 := cell_gr c2 hg5
      replace c3 := cell_gr c3 hg5
      replace x1 := cell_gr x1 hg5
      replace x2 := cell_gr x2 hg5
      replace x3 := cell_gr x3 hg5
      replace hsl := hsl.gr hg5
      replace hgr := hgr.trans hg5
      clear hg5
      go_wp2_with fail
      refine (amay_any W H (some ⟨g, 0, none⟩) N c' F _ hsl).mono ?_
      rintro e w6 ⟨rfl, hg6⟩
      rw [hm]
      replace x1 := cell_gr x1 hg6
      replace x2 := cell_gr x2 hg6
      replace x3 := cell_gr x3 hg6
      go_wp2_with fail
      go_ret
      exact ⟨ret_bool (by simp), hgr.trans hg6⟩
    · have cb := count_bd W H
      have hlen := made_len hm hFb
      have HM := hide hm
      have HPM := hide (fun (u : World) (hu : Sl u (some ⟨g, 0, none⟩) N F) => rputM_any W H (some ⟨g, 0, none⟩) N c' F u hu hm)
      go_wp2_with fail
      refine (aput_yes W H (some ⟨g, 0, none⟩) N c' F _ hsl q1 hm).mono ?_
      rintro e w2 ⟨⟨g2, k2, rfl, ho2⟩, hg2⟩
      have sl2 := ho2.sl.2.2.2.2
      have HSB := hide (sameB_refl (putM W H F).length (at0 (putM W H F)))
      generalize putM W H F = L at *
      replace c1 := cell_gr c1 hg2
      replace c2 := cell_gr c2 hg2
      replace c3 := cell_gr c3 hg2
      replace hsl := hsl.gr hg2
      replace hgr := hgr.trans hg2
      clear hg2 z7 ho2
      go_wp2_with fail
      cases hs : isSectorB W H S
      · have hsr : S < 0 ∨ countF W H - 1 < S := by
          have n : ¬ (0 ≤ S ∧ S ≤ countF W H - 1) := fun h => by rw [(count_iff W H S).2 h] at hs; cases hs
          omega
        refine (atile_no W H (some ⟨g, 0, none⟩) N c' F S _ hsl (.inr hs)).mono ?_
        rintro e w3 ⟨rfl, hg3⟩
        replace c1 := cell_gr c1 hg3
        replace c2 := cell_gr c2 hg3
        replace c3 := cell_gr c3 hg3
        replace hsl := hsl.gr hg3
        replace sl2 := sl2.gr hg3
        replace hgr := hgr.trans hg3
        have z7 : B7 < w3.heap.size := World.block_lt_of_cell? w3 ⟨B7, 0, none⟩ c1
        obtain ⟨x1, x2, x3⟩ := tri_cells w3 0 0 (.slice none 0 0) 31
        have ga3 := (Gr.refl w3).alloc (.cells #[.int .i64 0, .int .i64 0, .slice none 0 0] 31)
        go_wp2_with fail
        replace c1 := cell_gr c1 ga3
        replace c2 := cell_gr c2 ga3
        replace c3 := cell_gr c3 ga3
        replace hsl := hsl.gr ga3
        replace sl2 := sl2.gr ga3
        replace hgr := hgr.trans ga3
        clear ga3 hg3 z7
        generalize (w3.alloc (.cells #[.int .i64 0, .int .i64 0, .slice none 0 0] 31)) = u3 at *
        generalize w3.heap.size = B10 at *
        refine (rmayM_any W H (some ⟨g, 0, none⟩) N c' F _ hsl).mono ?_
        rintro e w4 ⟨rfl, hg4⟩
        rw [hm]
        replace c1 := cell_gr c1 hg4
        replace c2 := cell_gr c2 hg4
        replace c3 := cell_gr c3 hg4
        replace x1 := cell_gr x1 hg4
        replace x2 := cell_gr x2 hg4
        replace x3 := cell_gr x3 hg4
        replace hsl := hsl.gr hg4
        replace sl2 := sl2.gr hg4
        replace hgr := hgr.trans hg4
        have z7 : B7 < w4.heap.size := World.block_lt_of_cell? w4 ⟨B7, 0, none⟩ c1
        have z10 : B10 < w4.heap.size := World.block_lt_of_cell? w4 ⟨B10, 0, none⟩ x1
        have R12 := tri_alloc w4 (.int .i64 0) (.int .i64 0) (.slice none 0 0) 31
        have ga4 := (Gr.refl w4).alloc (.cells #[.int .i64 0, .int .i64 0, .slice none 0 0] 31)
        clear hg4
        go_wp2_with fail
        replace c1 := cell_gr c1 ga4
        replace c2 := cell_gr c2 ga4
        replace c3 := cell_gr c3 ga4
        replace x1 := cell_gr x1 ga4
        replace x2 := cell_gr x2 ga4
        replace x3 := cell_gr x3 ga4
        replace hsl := hsl.gr ga4
        replace sl2 := sl2.gr ga4
        replace hgr := hgr.trans ga4
        have n7 : B7 ≠ w4.heap.size := by omega
        have n10 : B10 ≠ w4.heap.size := by omega
        clear ga4 z7 z10
        generalize (w4.alloc (.cells #[.int .i64 0, .int .i64 0, .slice none 0 0] 31)) = u4 at *
        generalize w4.heap.size = B12 at *
        refine (rcount_any W H _).mono ?_
        rintro e w5 ⟨rfl, hd5⟩
        have hg5 := Dr.gr hd5
        clear hd5
        replace c1 := cell_gr c1 hg5
        replace c2 := cell_gr c2 hg5
        replace c3 := cell_gr c3 hg5
        replace x1 := cell_gr x1 hg5
        replace x2 := cell_gr x2 hg5
        replace x3 := cell_gr x3 hg5
        replace hsl := hsl.gr hg5
        replace sl2 := sl2.gr hg5
        replace hgr := hgr.trans hg5
        replace R12 := row_gr R12 hg5
        clear hg5
        go_wp2_with fail
        refine (in_no _ _ _ _ (by omega)).mono ?_
        rintro e w6 ⟨rfl, hd6⟩
        have hg6 := Dr.gr hd6
        clear hd6
        replace c1 := cell_gr c1 hg6
        replace c2 := cell_gr c2 hg6
        replace c3 := cell_gr c3 hg6
        replace x1 := cell_gr x1 hg6
        replace x2 := cell_gr x2 hg6
        replace x3 := cell_gr x3 hg6
        replace hsl := hsl.gr hg6
        replace sl2 := sl2.gr hg6
        replace hgr := hgr.trans hg6
        replace R12 := row_gr R12 hg6
        clear hg6
        obtain ⟨y1, y2, y3, -, -, -⟩ := row_cells R12
        go_wp2_with fail
        refine (HTD.out _ hgr).mono ?_
        rintro e w8 ⟨rfl, hg8⟩
        replace c1 := cell_gr c1 hg8
        replace c2 := cell_gr c2 hg8
        replace c3 := cell_gr c3 hg8
        replace x1 := cell_gr x1 hg8
        replace x2 := cell_gr x2 hg8
        replace x3 := cell_gr x3 hg8
        replace y1 := cell_gr y1 hg8
        replace y2 := cell_gr y2 hg8
        replace y3 := cell_gr y3 hg8
        replace hsl := hsl.gr hg8
        replace sl2 := sl2.gr hg8
        have hgr8 := hgr.trans hg8
        clear hg8
        go_wp2_with fail
        refine (amay_any W H (some ⟨g, 0, none⟩) N c' F _ hsl).mono ?_
        rintro e w9 ⟨rfl, hg9⟩
        rw [hm]
        replace c1 := cell_gr c1 hg9
        replace c2 := cell_gr c2 hg9
        replace c3 := cell_gr c3 hg9
        replace x1 := cell_gr x1 hg9
        replace x2 := cell_gr x2 hg9
        replace x3 := cell_gr x3 hg9
        replace y1 := cell_gr y1 hg9
        replace y2 := cell_gr y2 hg9
        replace y3 := cell_gr y3 hg9
        replace hsl := hsl.gr hg9
        replace sl2 := sl2.gr hg9
        replace hgr8 := hgr8.trans hg9
        clear hg9
        go_wp2_with fail
        refine (HPM.out _ hsl).mono ?_
        rintro e w10 ⟨⟨g10, k10, rfl, ho10⟩, hg10⟩
        replace c1 := cell_gr c1 hg10
        replace c2 := cell_gr c2 hg10
        replace c3 := cell_gr c3 hg10
        replace x1 := cell_gr x1 hg10
        replace x2 := cell_gr x2 hg10
        replace x3 := cell_gr x3 hg10
        replace y1 := cell_gr y1 hg10
        replace y2 := cell_gr y2 hg10
        replace y3 := cell_gr y3 hg10
        replace sl2 := sl2.gr hg10
        replace hgr8 := hgr8.trans hg10
        have sl10 := ho10.sl.2.2.2.2
        clear hg10 ho10 hsl
        go_wp2_with fail
        refine (rbytes_any _ _ _ _ _ _ (at0 L) (at0 L) _ sl2 sl10).mono ?_
        rintro e w11 ⟨rfl, hw11⟩
        subst hw11
        rw [HSB.out]
        go_wp2_with fail
        refine (rsameT_any 0 0 0 0 none none 0 0 0 0 F F _ (slE _ _ F) (slE _ _ F)).mono ?_
        rintro e w12 ⟨rfl, hg12⟩
        rw [sameTB_of (W := 0) (H := 0) (n := 0) (m := 0) (f := F) (g := F) rfl (fun _ _ => rfl)]
        go_wp2_with fail
        go_ret
        exact ⟨ret_bool (by simp), hgr8.trans hg12⟩
      · have hsr := (count_iff W H S).1 hs
        obtain ⟨s, hsS⟩ : ∃ s : Nat, S = s := ⟨S.toNat, by omega⟩
        have hsC : s < cntS W H := by have := cntS_int W H; omega
        subst hsS
        have HTO := hide (fun (u : World) (hu : Sl u (some ⟨g, 0, none⟩) N F) => rtileOf_any W H (some ⟨g, 0, none⟩) N c' F s u hu hm hsC)
        have HSM := hide (sameTB_of (W := twF W s) (H := thF W H s) (n := tnF W H s) (m := tnF W H s) (f := tileF W s F) (g := tileF W s F) rfl (fun _ _ => rfl))
        refine (atile_yes W H (some ⟨g, 0, none⟩) N c' F s _ hsl q1 hm hsC).mono ?_
        rintro e w3 ⟨⟨g3, k3, rfl, ho3⟩, hg3⟩
        have sl3 := ho3.sl.2.2.2.2
        have TN1 : 1 ≤ tnF W H s := (tnF_eq hs).2.1
        have hL1 : 1 ≤ L.length := by omega
        have hN1 : 1 ≤ N := by
          obtain ⟨hmb, hNN, -⟩ := (mayM_iff _ _ _ _).1 hm
          have := may_mul hmb
          omega
        generalize twF W s = TW at *
        generalize thF W H s = TH at *
        generalize tnF W H s = TN at *
        generalize tileF W s F = TF at *
        replace c1 := cell_gr c1 hg3
        replace c2 := cell_gr c2 hg3
        replace c3 := cell_gr c3 hg3
        replace hsl := hsl.gr hg3
        replace sl2 := sl2.gr hg3
        replace hgr := hgr.trans hg3
        have z7 : B7 < w3.heap.size := World.block_lt_of_cell? w3 ⟨B7, 0, none⟩ c1
        obtain ⟨x1, x2, x3⟩ := tri_cells w3 TW TH (.slice (some ⟨g3, 0, none⟩) TN k3) 31
        have ga3 := (Gr.refl w3).alloc (.cells #[.int .i64 TW, .int .i64 TH, .slice (some ⟨g3, 0, none⟩) TN k3] 31)
        go_wp2_with fail
        replace c1 := cell_gr c1 ga3
        replace c2 := cell_gr c2 ga3
        replace c3 := cell_gr c3 ga3
        replace hsl := hsl.gr ga3
        replace sl2 := sl2.gr ga3
        replace hgr := hgr.trans ga3
        replace sl3 := sl3.gr ga3
        clear ga3 hg3 z7
        generalize (w3.alloc (.cells #[.int .i64 TW, .int .i64 TH, .slice (some ⟨g3, 0, none⟩) TN k3] 31)) = u3 at *
        generalize w3.heap.size = B10 at *
        refine (rmayM_any W H (some ⟨g, 0, none⟩) N c' F _ hsl).mono ?_
        rintro e w4 ⟨rfl, hg4⟩
        rw [hm]
        replace c1 := cell_gr c1 hg4
        replace c2 := cell_gr c2 hg4
        replace c3 := cell_gr c3 hg4
        replace x1 := cell_gr x1 hg4
        replace x2 := cell_gr x2 hg4
        replace x3 := cell_gr x3 hg4
        replace hsl := hsl.gr hg4
        replace sl2 := sl2.gr hg4
        replace hgr := hgr.trans hg4
        replace sl3 := sl3.gr hg4
        have z7 : B7 < w4.heap.size := World.block_lt_of_cell? w4 ⟨B7, 0, none⟩ c1
        have z10 : B10 < w4.heap.size := World.block_lt_of_cell? w4 ⟨B10, 0, none⟩ x1
        have R12 := tri_alloc w4 (.int .i64 0) (.int .i64 0) (.slice none 0 0) 31
        have ga4 := (Gr.refl w4).alloc (.cells #[.int .i64 0, .int .i64 0, .slice none 0 0] 31)
        clear hg4
        go_wp2_with fail
        replace c1 := cell_gr c1 ga4
        replace c2 := cell_gr c2 ga4
        replace c3 := cell_gr c3 ga4
        replace x1 := cell_gr x1 ga4
        replace x2 := cell_gr x2 ga4
        replace x3 := cell_gr x3 ga4
        have hB12 := hgr.size
        replace hsl := hsl.gr ga4
        replace sl2 := sl2.gr ga4
        replace hgr := hgr.trans ga4
        replace sl3 := sl3.gr ga4
        have n7 : B7 ≠ w4.heap.size := by omega
        have n10 : B10 ≠ w4.heap.size := by omega
        clear ga4 z7 z10
        generalize (w4.alloc (.cells #[.int .i64 0, .int .i64 0, .slice none 0 0] 31)) = u4 at *
        generalize w4.heap.size = B12 at *
        refine (rcount_any W H _).mono ?_
        rintro e w5 ⟨rfl, hd5⟩
        have hg5 := Dr.gr hd5
        clear hd5
        replace c1 := cell_gr c1 hg5
        replace c2 := cell_gr c2 hg5
        replace c3 := cell_gr c3 hg5
        replace x1 := cell_gr x1 hg5
        replace x2 := cell_gr x2 hg5
        replace x3 := cell_gr x3 hg5
        replace hsl := hsl.gr hg5
        replace sl2 := sl2.gr hg5
        replace hgr := hgr.trans hg5
        replace R12 := row_gr R12 hg5
        replace sl3 := sl3.gr hg5
        clear hg5
        go_wp2_with fail
        refine (in_yes _ _ _ _ (by omega) (by omega)).mono ?_
        rintro e w6 ⟨rfl, hd6⟩
        have hg6 := Dr.gr hd6
        clear hd6
        replace c1 := cell_gr c1 hg6
        replace c2 := cell_gr c2 hg6
        replace c3 := cell_gr c3 hg6
        replace x1 := cell_gr x1 hg6
        replace x2 := cell_gr x2 hg6
        replace x3 := cell_gr x3 hg6
        replace hsl := hsl.gr hg6
        replace sl2 := sl2.gr hg6
        replace hgr := hgr.trans hg6
        replace R12 := row_gr R12 hg6
        replace sl3 := sl3.gr hg6
        clear hg6
        go_wp2_with fail
        refine (HTO.out _ hsl).mono ?_
        rintro e w7 ⟨⟨g7, k7, rfl, ho7⟩, hg7⟩
        have sl7 := ho7.sl.2.2.2.2
        replace c1 := cell_gr c1 hg7
        replace c2 := cell_gr c2 hg7
        replace c3 := cell_gr c3 hg7
        replace x1 := cell_gr x1 hg7
        replace x2 := cell_gr x2 hg7
        replace x3 := cell_gr x3 hg7
        replace hsl := hsl.gr hg7
        replace sl2 := sl2.gr hg7
        replace hgr := hgr.trans hg7
        replace R12 := row_gr R12 hg7
        replace sl3 := sl3.gr hg7
        obtain ⟨y1, y2, y3, j1, j2, j3⟩ := row_cells R12
        have a2 := sl_apart sl7 TN1 y1
        have a3 := sl_apart sl3 TN1 y1
        have a4 := sl_apart sl2 hL1 y1
        have a5 := sl_apart hsl hN1 y1
        have hgs := gr_set3 (x := .int .i64 TW) (y := .int .i64 TH) (z := .slice (some ⟨g7, 0, none⟩) TN k7) hgr hB12
        have R13 := row_set3 (u0 := .int .i64 TW) (u1 := .int .i64 TH) (u2 := .slice (some ⟨g7, 0, none⟩) TN k7) R12
        replace sl7 := ((sl7.setF (p := ⟨B12, 0, none⟩) (v := .int .i64 TW) a2).setF (p := ⟨B12, 1, none⟩) (v := .int .i64 TH) a2).setF (p := ⟨B12, 2, none⟩) (v := .slice (some ⟨g7, 0, none⟩) TN k7) a2
        replace sl3 := ((sl3.setF (p := ⟨B12, 0, none⟩) (v := .int .i64 TW) a3).setF (p := ⟨B12, 1, none⟩) (v := .int .i64 TH) a3).setF (p := ⟨B12, 2, none⟩) (v := .slice (some ⟨g7, 0, none⟩) TN k7) a3
        replace sl2 := ((sl2.setF (p := ⟨B12, 0, none⟩) (v := .int .i64 TW) a4).setF (p := ⟨B12, 1, none⟩) (v := .int .i64 TH) a4).setF (p := ⟨B12, 2, none⟩) (v := .slice (some ⟨g7, 0, none⟩) TN k7) a4
        replace hsl := ((hsl.setF (p := ⟨B12, 0, none⟩) (v := .int .i64 TW) a5).setF (p := ⟨B12, 1, none⟩) (v := .int .i64 TH) a5).setF (p := ⟨B12, 2, none⟩) (v := .slice (some ⟨g7, 0, none⟩) TN k7) a5
        replace c1 := cell_far3 (x := .int .i64 TW) (y := .int .i64 TH) (z := .slice (some ⟨g7, 0, none⟩) TN k7) c1 n7
        replace c2 := cell_far3 (x := .int .i64 TW) (y := .int .i64 TH) (z := .slice (some ⟨g7, 0, none⟩) TN k7) c2 n7
        replace c3 := cell_far3 (x := .int .i64 TW) (y := .int .i64 TH) (z := .slice (some ⟨g7, 0, none⟩) TN k7) c3 n7
        replace x1 := cell_far3 (x := .int .i64 TW) (y := .int .i64 TH) (z := .slice (some ⟨g7, 0, none⟩) TN k7) x1 n10
        replace x2 := cell_far3 (x := .int .i64 TW) (y := .int .i64 TH) (z := .slice (some ⟨g7, 0, none⟩) TN k7) x2 n10
        replace x3 := cell_far3 (x := .int .i64 TW) (y := .int .i64 TH) (z := .slice (some ⟨g7, 0, none⟩) TN k7) x3 n10
        clear hgr R12 hg7 ho7 a2 a3 a4 a5
        go_wp2_with fail
        clear y1 y2 y3 j1 j2 j3
        generalize (((w7.setCell ⟨B12, 0, none⟩ (.int .i64 TW)).setCell ⟨B12, 1, none⟩ (.int .i64 TH)).setCell ⟨B12, 2, none⟩ (.slice (some ⟨g7, 0, none⟩) TN k7)) = u7 at *
        obtain ⟨y1, y2, y3, -, -, -⟩ := row_cells R13
        refine (HTD.out _ hgs).mono ?_
        rintro e w8 ⟨rfl, hg8⟩
        replace c1 := cell_gr c1 hg8
        replace c2 := cell_gr c2 hg8
        replace c3 := cell_gr c3 hg8
        replace x1 := cell_gr x1 hg8
        replace x2 := cell_gr x2 hg8
        replace x3 := cell_gr x3 hg8
        replace y1 := cell_gr y1 hg8
        replace y2 := cell_gr y2 hg8
        replace y3 := cell_gr y3 hg8
        replace hsl := hsl.gr hg8
        replace sl2 := sl2.gr hg8
        have hgr8 := hgs.trans hg8
        replace sl3 := sl3.gr hg8
        replace sl7 := sl7.gr hg8
        clear hg8
        go_wp2_with fail
        refine (amay_any W H (some ⟨g, 0, none⟩) N c' F _ hsl).mono ?_
        rintro e w9 ⟨rfl, hg9⟩
        rw [hm]
        replace c1 := cell_gr c1 hg9
        replace c2 := cell_gr c2 hg9
        replace c3 := cell_gr c3 hg9
        replace x1 := cell_gr x1 hg9
        replace x2 := cell_gr x2 hg9
        replace x3 := cell_gr x3 hg9
        replace y1 := cell_gr y1 hg9
        replace y2 := cell_gr y2 hg9
        replace y3 := cell_gr y3 hg9
        replace hsl := hsl.gr hg9
        replace sl2 := sl2.gr hg9
        replace hgr8 := hgr8.trans hg9
        replace sl3 := sl3.gr hg9
        replace sl7 := sl7.gr hg9
        clear hg9
        go_wp2_with fail
        refine (HPM.out _ hsl).mono ?_
        rintro e w10 ⟨⟨g10, k10, rfl, ho10⟩, hg10⟩
        replace c1 := cell_gr c1 hg10
        replace c2 := cell_gr c2 hg10
        replace c3 := cell_gr c3 hg10
        replace x1 := cell_gr x1 hg10
        replace x2 := cell_gr x2 hg10
        replace x3 := cell_gr x3 hg10
        replace y1 := cell_gr y1 hg10
        replace y2 := cell_gr y2 hg10
        replace y3 := cell_gr y3 hg10
        replace sl2 := sl2.gr hg10
        replace hgr8 := hgr8.trans hg10
        replace sl3 := sl3.gr hg10
        replace sl7 := sl7.gr hg10
        have sl10 := ho10.sl.2.2.2.2
        clear hg10 ho10 hsl
        go_wp2_with fail
        refine (rbytes_any _ _ _ _ _ _ (at0 L) (at0 L) _ sl2 sl10).mono ?_
        rintro e w11 ⟨rfl, hw11⟩
        subst hw11
        rw [HSB.out]
        go_wp2_with fail
        refine (rsameT_any TW TH TW TH (some ⟨g3, 0, none⟩) (some ⟨g7, 0, none⟩) TN k3 TN k7 TF TF _ sl3 sl7).mono ?_
        rintro e w12 ⟨rfl, hg12⟩
        rw [HSM.out]
        go_wp2_with fail
        go_ret
        exact ⟨ret_bool (by simp), hgr8.trans hg12⟩

end Go.Proofs.YtakmiafloolpmaaDoor
