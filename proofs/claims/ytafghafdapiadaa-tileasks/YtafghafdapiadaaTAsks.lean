/- TileAsks' walk: it answers true at every input; nothing that was there is written. -/
import Derived.Test.YtafghafdapiadaaTNear
namespace Go.Proofs.Ytafghafdapiadaa
open Go.RowKit

set_option maxHeartbeats 8000000 in
theorem tileAsks_any (T1 T2 : Int) (a : Option Addr) (n cap : Nat) (f : Nat → Int) (x y l s : Int) (raw : Bool) (w : World) (h : Sl w a n f) (ha : a = none → n = 0 ∧ cap = 0) :
    Calls Try.prog 3 #[.agg #[.int .i64 T1, .int .i64 T2, .slice a n cap], .int .i64 x, .int .i64 y, .int .i64 l, .int .i64 s, .bool raw] w fun e w' => e = .returned (.bool true) ∧ Gr w w' := by
  by_cases hbig : 600 < n
  · go_enter Try.func3, Try.ntmps3
    go_wp2_with (go_at_call 8; refine (told_any _).mono ?_; rintro e w3 ⟨rfl, hg3⟩)
    go_ret
    exact ⟨rfl, (by repeat (first | exact Gr.refl _ | assumption | exact Dr.gr (by assumption) | refine Gr.alloc ?_ _ | refine Gr.drewN ?_ _ | refine Gr.drew ?_ | refine Gr.trans ?_ (by assumption) | refine Gr.trans ?_ (Dr.gr (by assumption))))⟩
  have hn6 : n ≤ 600 := by omega
  cases raw
  all_goals
    go_enter Try.func3, Try.ntmps3
    go_wp2_with fail
    refine (near_any2 _ _ _ _ _ f _ _ _ _ (h.gr (by repeat (first | exact Gr.refl _ | assumption | exact Dr.gr (by assumption) | refine Gr.alloc ?_ _ | refine Gr.drewN ?_ _ | refine Gr.drew ?_ | refine Gr.trans ?_ (by assumption) | refine Gr.trans ?_ (Dr.gr (by assumption))))) hn6 ha).mono ?_
    rintro e w1 ⟨⟨W, H, g, N, c', F, rfl, hown, hN⟩, hg1⟩
    obtain ⟨-, -, -, -, hsl⟩ := hown.sl
    clear hown
    go_wp2_with fail
    obtain ⟨c1, c2, c3⟩ := tri_at w1 W H (.slice (some ⟨g, 0, none⟩) N c')
    have hg2 : Gr w1 (w1.alloc (.cells #[.int .i64 W, .int .i64 H, .slice (some ⟨g, 0, none⟩) N c'] 24)) := (by repeat (first | exact Gr.refl _ | assumption | exact Dr.gr (by assumption) | refine Gr.alloc ?_ _ | refine Gr.drewN ?_ _ | refine Gr.drew ?_ | refine Gr.trans ?_ (by assumption) | refine Gr.trans ?_ (Dr.gr (by assumption))))
    have hgw : Gr w (w1.alloc (.cells #[.int .i64 W, .int .i64 H, .slice (some ⟨g, 0, none⟩) N c'] 24)) := (by repeat (first | exact Gr.refl _ | assumption | exact Dr.gr (by assumption) | refine Gr.alloc ?_ _ | refine Gr.drewN ?_ _ | refine Gr.drew ?_ | refine Gr.trans ?_ (by assumption) | refine Gr.trans ?_ (Dr.gr (by assumption))))
    replace hsl := hsl.gr hg2
    clear hg2 hg1
    generalize w1.alloc (.cells #[.int .i64 W, .int .i64 H, .slice (some ⟨g, 0, none⟩) N c'] 24) = u0 at *
    generalize w1.heap.size = B at *
    first
      | (go_at_call 10; refine (within_st _ _ _ _ (by omega) (by omega) (by omega)).mono ?_; rintro e w2 ⟨rfl, hw2⟩; subst hw2; generalize withinF l (-1) N = l' at *; go_wp2_with fail; refine (within_st _ _ _ _ (by omega) (by omega) (by omega)).mono ?_; rintro e w2 ⟨rfl, hw2⟩; subst hw2; generalize withinF s (-1) 6 = s' at *; go_wp2_with fail)
      | (generalize l = l' at *; generalize s = s' at *)
    cases hm : mayTB W H N F
    · obtain ⟨z, hnr⟩ : ∃ z, nearF W H N F l' s' = z := ⟨_, rfl⟩
      have hat : atF W H N F l' = 0 := by simp [atF, isLocB, hm]
      refine (rmayT_any _ _ _ _ _ F _ hsl).mono ?_
      rintro e u1 ⟨rfl, hg3⟩
      rw [hm]
      replace c1 := cell_gr c1 hg3
      replace c2 := cell_gr c2 hg3
      replace c3 := cell_gr c3 hg3
      replace hgw := hgw.trans hg3
      replace hsl := hsl.gr hg3
      clear hg3
      go_wp2_with fail
      go_region_held3 (fun u => u.cell? ⟨B, 0, none⟩ = some (.int .i64 W) ∧ u.cell? ⟨B, 1, none⟩ = some (.int .i64 H) ∧ u.cell? ⟨B, 2, none⟩ = some (.slice (some ⟨g, 0, none⟩) N c') ∧ Gr u1 u) (first | exact ⟨c1, c2, c3, (Gr.refl _).drew⟩ | exact ⟨cell_gr hS.1 hg9, cell_gr hS.2.1 hg9, cell_gr hS.2.2.1 hg9, hS.2.2.2.trans hg9⟩) (first | (go_at_call 8; have hS := ‹_ ∧ _ ∧ _ ∧ Gr _ _›; refine (told_any _).mono ?_; rintro e w9 ⟨rfl, hg9⟩) | (go_at_call 13; have hS := ‹_ ∧ _ ∧ _ ∧ Gr _ _›; refine (tmay_any _ _ _ _ _ F _ (hsl.gr hS.2.2.2)).mono ?_; rintro e w9 ⟨rfl, hg9⟩; rw [hm]) | (go_at_call 11; have hS := ‹_ ∧ _ ∧ _ ∧ Gr _ _›; refine (rmayT_any _ _ _ _ _ F _ (hsl.gr hS.2.2.2)).mono ?_; rintro e w9 ⟨rfl, hg9⟩; rw [hm]) | (go_at_call 14; have hS := ‹_ ∧ _ ∧ _ ∧ Gr _ _›; refine (at_any _ _ _ _ _ F _ _ (hsl.gr hS.2.2.2)).mono ?_; rintro e w9 ⟨rfl, hg9⟩; rw [hat]) | (go_at_call 15; have hS := ‹_ ∧ _ ∧ _ ∧ Gr _ _›; refine (tnear_any _ _ _ _ _ F _ _ _ (hsl.gr hS.2.2.2)).mono ?_; rintro e w9 ⟨rfl, hg9⟩; rw [hnr]) | (go_at_call 16; have hS := ‹_ ∧ _ ∧ _ ∧ Gr _ _›; refine (rnear_any _ _ _ _ _ F _ _ _ (hsl.gr hS.2.2.2)).mono ?_; rintro e w9 ⟨rfl, hg9⟩; rw [hnr]) | (go_at_call 18; have hS := ‹_ ∧ _ ∧ _ ∧ Gr _ _›; refine (open_no _ _ _ _ _ F _ (hsl.gr hS.2.2.2) hm).mono ?_; rintro e w9 ⟨rfl, hg9⟩) | (go_at_call 17; have hS := ‹_ ∧ _ ∧ _ ∧ Gr _ _›; refine (ints_same _ _ _ _ _ F _ (.inl rfl) (.inl rfl) (by omega)).mono ?_; rintro e w9 ⟨rfl, hd9⟩; have hg9 := hd9.gr))
      have hge := (‹_ ∧ _ ∧ _ ∧ Gr _ w9›).2.2.2
      replace hgw := hgw.trans hge
      clear c1 c2 c3
      go_wp2
      go_ret
      exact ⟨rfl, hgw⟩
    · obtain ⟨z, hnr⟩ : ∃ z, nearF W H N F l' s' = z := ⟨_, rfl⟩
      obtain ⟨i0, hi, hz0, hz1, hz2⟩ := info_parts info_int
      refine (rmayT_any _ _ _ _ _ F _ hsl).mono ?_
      rintro e u1 ⟨rfl, hg3⟩
      rw [hm]
      replace c1 := cell_gr c1 hg3
      replace c2 := cell_gr c2 hg3
      replace c3 := cell_gr c3 hg3
      replace hgw := hgw.trans hg3
      replace hsl := hsl.gr hg3
      clear hg3
      obtain ⟨n1, n2, -, -⟩ := mayTB_n hm
      obtain ⟨b, o, e, hB, hc⟩ := hsl.at (by omega)
      simp only [Option.some.injEq, Addr.mk.injEq, and_true] at e
      obtain ⟨rfl, rfl⟩ := e
      have HC := hide hc
      clear hc
      by_cases hl : 0 ≤ l' ∧ l' < N
      · obtain ⟨k, rfl⟩ : ∃ k : Nat, l' = k := ⟨l'.toNat, by omega⟩
        have hk : k < N := by omega
        have hat : atF W H N F k = F k := by simp [atF, isLocB, hm, hk]
        have hck := HC.out k hk
        have hbk := hsl.byte k hk
        rw [Nat.zero_add] at hck
        clear hl
        go_wp2_with (go_at_call 12; refine (in_yes _ _ _ _ (by omega) (by omega)).mono ?_; rintro e w' ⟨rfl, q, rfl⟩)
        go_loopw [15, 16] (fun v i u => ∃ j : Nat, j ≤ N ∧ i = .int .i64 j ∧ u.ownsRow u1.heap.size 3 1 v (openL j F).length (openV j F) ∧ Gr u1 u) (fun _ i _ => N - (intOf i).toNat)
        case atStart => exact ⟨0, Nat.zero_le _, rfl, by exact World.ownsRow_nil _ _ _ _, (Gr.refl _).drewN q⟩
        case round =>
          obtain ⟨j, hj, rfl, hown, hgr⟩ := hrel
          replace c1 := cell_gr c1 hgr
          replace c2 := cell_gr c2 hgr
          replace c3 := cell_gr c3 hgr
          by_cases hjl : j < N
          · have hcj : wr.cell? ⟨g, j, none⟩ = some (.int .u8 (F j)) := by
              have := HC.out j hjl
              rw [Nat.zero_add] at this
              exact cell_gr this hgr
            have hbj := hsl.byte j hjl
            have ol := openL_le j F
            by_cases hw : F j = 255
            · have hw' : (F j != 255) = false := by simp [hw]
              have E : Hid (openL (j + 1) F = openL j F) := hide (openL_no j F hw)
              have HO := hide hown
              have HG := hide hgr
              clear hw hown hgr
              go_wp2
              go_roundw
              case rel => exact ⟨j + 1, by omega, by go_num, by unfold openV; rw [E.out]; exact HO.out, HG.out⟩
              case measure => simp [intOf]; omega
            · have hw' : (F j != 255) = true := by simp [hw]
              have E : Hid (openL (j + 1) F = openL j F ++ [j]) := hide (openL_yes j F hw)
              have HO := hide hown
              have HG := hide hgr
              clear hw hown hgr
              go_wp2_with (at_builtin; refine wpList_append_own _ rfl _ _ 28 rfl u1.heap.size 3 i0 (.int .i64 0) 1 8 Try.underlying28 hi hz0 hz1 hz2 rfl (by decide) _ _ _ rfl (HO.out.alloc _) ⟨wr.heap.size, 0, none⟩ 1 1 [.int .i64 j] rfl rfl (alloc_one _ _ _) (by simp [Value.oneCell']) (by unfold maxLen; omega) (by omega) (by have := HG.out.size; simp only [World.size_alloc]; omega) ?_; intro v' w3 hown' hgrow hnil)
              go_roundw
              case rel => exact ⟨j + 1, by omega, by go_num, by unfold openV; rw [E.out]; simpa [openV] using hown', Gr.grown (HG.out.alloc _) hgrow (fun q e => (HO.out.lt q e).1)⟩
              case measure => simp [intOf]; omega
          · have hjN : N = j := by omega
            subst hjN
            have ol := openL_le N F
            rw [openV_cel] at hown
            obtain ⟨aL, cL, rfl, -, -, hL⟩ := SlI.of_own hown
            replace hgw := hgw.trans hgr
            replace hsl := hsl.gr hgr
            clear hown hgr
            obtain ⟨nL, hnL⟩ : ∃ m, m = (openL N F).length := ⟨_, rfl⟩
            rw [← hnL] at hL ol ⊢
            have HL := hide hnL
            clear hnL
            go_wp2_with fail
            go_region_held3 (fun u => u.cell? ⟨B, 0, none⟩ = some (.int .i64 W) ∧ u.cell? ⟨B, 1, none⟩ = some (.int .i64 H) ∧ u.cell? ⟨B, 2, none⟩ = some (.slice (some ⟨g, 0, none⟩) N c') ∧ Gr wr u) (first | exact ⟨c1, c2, c3, (Gr.refl _).drew⟩ | exact ⟨cell_gr hS.1 hg9, cell_gr hS.2.1 hg9, cell_gr hS.2.2.1 hg9, hS.2.2.2.trans hg9⟩) (first | (go_at_call 8; have hS := ‹_ ∧ _ ∧ _ ∧ Gr _ _›; refine (told_any _).mono ?_; rintro e w9 ⟨rfl, hg9⟩) | (go_at_call 13; have hS := ‹_ ∧ _ ∧ _ ∧ Gr _ _›; refine (tmay_any _ _ _ _ _ F _ (hsl.gr hS.2.2.2)).mono ?_; rintro e w9 ⟨rfl, hg9⟩; rw [hm]) | (go_at_call 11; have hS := ‹_ ∧ _ ∧ _ ∧ Gr _ _›; refine (rmayT_any _ _ _ _ _ F _ (hsl.gr hS.2.2.2)).mono ?_; rintro e w9 ⟨rfl, hg9⟩; rw [hm]) | (go_at_call 14; have hS := ‹_ ∧ _ ∧ _ ∧ Gr _ _›; refine (at_any _ _ _ _ _ F _ _ (hsl.gr hS.2.2.2)).mono ?_; rintro e w9 ⟨rfl, hg9⟩; rw [hat]) | (go_at_call 15; have hS := ‹_ ∧ _ ∧ _ ∧ Gr _ _›; refine (tnear_any _ _ _ _ _ F _ _ _ (hsl.gr hS.2.2.2)).mono ?_; rintro e w9 ⟨rfl, hg9⟩; rw [hnr]) | (go_at_call 16; have hS := ‹_ ∧ _ ∧ _ ∧ Gr _ _›; refine (rnear_any _ _ _ _ _ F _ _ _ (hsl.gr hS.2.2.2)).mono ?_; rintro e w9 ⟨rfl, hg9⟩; rw [hnr]) | (go_at_call 18; have hS := ‹_ ∧ _ ∧ _ ∧ Gr _ _›; refine (open_yes _ _ _ _ _ F _ (hsl.gr hS.2.2.2) hm).mono ?_; rintro e w9 ⟨⟨v, rfl, hv⟩, hg9⟩; rw [openV_cel] at hv; obtain ⟨aO, cO, rfl, -, -, hO⟩ := SlI.of_own hv; rw [← HL.out] at hO ⊢; clear hv) | (go_at_call 17; have hS := ‹_ ∧ _ ∧ _ ∧ Gr _ _›; refine (ints_same _ _ _ _ _ (openF N F) _ hO (hL.gr hS.2.2.2) (by omega)).mono ?_; rintro e w9 ⟨rfl, hd9⟩; have hg9 := hd9.gr))
            have hge := (‹_ ∧ _ ∧ _ ∧ Gr _ w9›).2.2.2
            replace hgw := hgw.trans hge
            clear c1 c2 c3
            go_wp2
            go_ret
            exact ⟨rfl, hgw⟩
      · have hat : atF W H N F l' = 0 := by
          simp only [atF, isLocB, hm, Bool.true_and, decide_eq_true_eq]
          rw [if_neg hl]
        have hl' : l' < 0 ∨ (N : Int) ≤ l' := by omega
        clear hl
        go_wp2_with (go_at_call 12; refine (in_no _ _ _ _ (by omega)).mono ?_; rintro e w' ⟨rfl, q, rfl⟩)
        go_loopw [15, 16] (fun v i u => ∃ j : Nat, j ≤ N ∧ i = .int .i64 j ∧ u.ownsRow u1.heap.size 3 1 v (openL j F).length (openV j F) ∧ Gr u1 u) (fun _ i _ => N - (intOf i).toNat)
        case atStart => exact ⟨0, Nat.zero_le _, rfl, by exact World.ownsRow_nil _ _ _ _, (Gr.refl _).drewN q⟩
        case round =>
          obtain ⟨j, hj, rfl, hown, hgr⟩ := hrel
          replace c1 := cell_gr c1 hgr
          replace c2 := cell_gr c2 hgr
          replace c3 := cell_gr c3 hgr
          by_cases hjl : j < N
          · have hcj : wr.cell? ⟨g, j, none⟩ = some (.int .u8 (F j)) := by
              have := HC.out j hjl
              rw [Nat.zero_add] at this
              exact cell_gr this hgr
            have hbj := hsl.byte j hjl
            have ol := openL_le j F
            by_cases hw : F j = 255
            · have hw' : (F j != 255) = false := by simp [hw]
              have E : Hid (openL (j + 1) F = openL j F) := hide (openL_no j F hw)
              have HO := hide hown
              have HG := hide hgr
              clear hw hown hgr
              go_wp2
              go_roundw
              case rel => exact ⟨j + 1, by omega, by go_num, by unfold openV; rw [E.out]; exact HO.out, HG.out⟩
              case measure => simp [intOf]; omega
            · have hw' : (F j != 255) = true := by simp [hw]
              have E : Hid (openL (j + 1) F = openL j F ++ [j]) := hide (openL_yes j F hw)
              have HO := hide hown
              have HG := hide hgr
              clear hw hown hgr
              go_wp2_with (at_builtin; refine wpList_append_own _ rfl _ _ 28 rfl u1.heap.size 3 i0 (.int .i64 0) 1 8 Try.underlying28 hi hz0 hz1 hz2 rfl (by decide) _ _ _ rfl (HO.out.alloc _) ⟨wr.heap.size, 0, none⟩ 1 1 [.int .i64 j] rfl rfl (alloc_one _ _ _) (by simp [Value.oneCell']) (by unfold maxLen; omega) (by omega) (by have := HG.out.size; simp only [World.size_alloc]; omega) ?_; intro v' w3 hown' hgrow hnil)
              go_roundw
              case rel => exact ⟨j + 1, by omega, by go_num, by unfold openV; rw [E.out]; simpa [openV] using hown', Gr.grown (HG.out.alloc _) hgrow (fun q e => (HO.out.lt q e).1)⟩
              case measure => simp [intOf]; omega
          · have hjN : N = j := by omega
            subst hjN
            have ol := openL_le N F
            rw [openV_cel] at hown
            obtain ⟨aL, cL, rfl, -, -, hL⟩ := SlI.of_own hown
            replace hgw := hgw.trans hgr
            replace hsl := hsl.gr hgr
            clear hown hgr
            obtain ⟨nL, hnL⟩ : ∃ m, m = (openL N F).length := ⟨_, rfl⟩
            rw [← hnL] at hL ol ⊢
            have HL := hide hnL
            clear hnL
            go_wp2_with fail
            go_region_held3 (fun u => u.cell? ⟨B, 0, none⟩ = some (.int .i64 W) ∧ u.cell? ⟨B, 1, none⟩ = some (.int .i64 H) ∧ u.cell? ⟨B, 2, none⟩ = some (.slice (some ⟨g, 0, none⟩) N c') ∧ Gr wr u) (first | exact ⟨c1, c2, c3, (Gr.refl _).drew⟩ | exact ⟨cell_gr hS.1 hg9, cell_gr hS.2.1 hg9, cell_gr hS.2.2.1 hg9, hS.2.2.2.trans hg9⟩) (first | (go_at_call 8; have hS := ‹_ ∧ _ ∧ _ ∧ Gr _ _›; refine (told_any _).mono ?_; rintro e w9 ⟨rfl, hg9⟩) | (go_at_call 13; have hS := ‹_ ∧ _ ∧ _ ∧ Gr _ _›; refine (tmay_any _ _ _ _ _ F _ (hsl.gr hS.2.2.2)).mono ?_; rintro e w9 ⟨rfl, hg9⟩; rw [hm]) | (go_at_call 11; have hS := ‹_ ∧ _ ∧ _ ∧ Gr _ _›; refine (rmayT_any _ _ _ _ _ F _ (hsl.gr hS.2.2.2)).mono ?_; rintro e w9 ⟨rfl, hg9⟩; rw [hm]) | (go_at_call 14; have hS := ‹_ ∧ _ ∧ _ ∧ Gr _ _›; refine (at_any _ _ _ _ _ F _ _ (hsl.gr hS.2.2.2)).mono ?_; rintro e w9 ⟨rfl, hg9⟩; rw [hat]) | (go_at_call 15; have hS := ‹_ ∧ _ ∧ _ ∧ Gr _ _›; refine (tnear_any _ _ _ _ _ F _ _ _ (hsl.gr hS.2.2.2)).mono ?_; rintro e w9 ⟨rfl, hg9⟩; rw [hnr]) | (go_at_call 16; have hS := ‹_ ∧ _ ∧ _ ∧ Gr _ _›; refine (rnear_any _ _ _ _ _ F _ _ _ (hsl.gr hS.2.2.2)).mono ?_; rintro e w9 ⟨rfl, hg9⟩; rw [hnr]) | (go_at_call 18; have hS := ‹_ ∧ _ ∧ _ ∧ Gr _ _›; refine (open_yes _ _ _ _ _ F _ (hsl.gr hS.2.2.2) hm).mono ?_; rintro e w9 ⟨⟨v, rfl, hv⟩, hg9⟩; rw [openV_cel] at hv; obtain ⟨aO, cO, rfl, -, -, hO⟩ := SlI.of_own hv; rw [← HL.out] at hO ⊢; clear hv) | (go_at_call 17; have hS := ‹_ ∧ _ ∧ _ ∧ Gr _ _›; refine (ints_same _ _ _ _ _ (openF N F) _ hO (hL.gr hS.2.2.2) (by omega)).mono ?_; rintro e w9 ⟨rfl, hd9⟩; have hg9 := hd9.gr))
            have hge := (‹_ ∧ _ ∧ _ ∧ Gr _ w9›).2.2.2
            replace hgw := hgw.trans hge
            clear c1 c2 c3
            go_wp2
            go_ret
            exact ⟨rfl, hgw⟩

end Go.Proofs.Ytafghafdapiadaa
