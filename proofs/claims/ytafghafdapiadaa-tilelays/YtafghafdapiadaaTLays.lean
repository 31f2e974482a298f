/- TileLays' walk: it answers true at every input; nothing that was there is written. -/
import Derived.Test.YtafghafdapiadaaTNear
import Derived.Test.YtafghafdapiadaaTCountMath
namespace Go.Proofs.Ytafghafdapiadaa
open Go.RowKit

theorem sameTB_refl (W H : Int) (n : Nat) (f : Nat → Int) : sameTB W H n f W H n f = true := by simp [sameTB, sameB]

set_option maxHeartbeats 8000000 in
theorem tileLays_any (T1 T2 : Int) (a : Option Addr) (n cap : Nat) (f : Nat → Int) (x y l s : Int) (raw : Bool) (w : World) (h : Sl w a n f) (ha : a = none → n = 0 ∧ cap = 0) :
    Calls Try.prog 4 #[.agg #[.int .i64 T1, .int .i64 T2, .slice a n cap], .int .i64 x, .int .i64 y, .int .i64 l, .int .i64 s, .bool raw] w fun e w' => e = .returned (.bool true) ∧ Gr w w' := by
  by_cases hbig : 600 < n
  · go_enter Try.func4, Try.ntmps4
    go_wp2_with (go_at_call 8; refine (told_any _).mono ?_; rintro e w3 ⟨rfl, hg3⟩)
    go_ret
    exact ⟨rfl, (by repeat (first | exact Gr.refl _ | assumption | exact Dr.gr (by assumption) | refine Gr.alloc ?_ _ | refine Gr.drewN ?_ _ | refine Gr.drew ?_ | refine Gr.trans ?_ (by assumption) | refine Gr.trans ?_ (Dr.gr (by assumption))))⟩
  have hn6 : n ≤ 600 := by omega
  cases raw
  all_goals
    go_enter Try.func4, Try.ntmps4
    go_wp2_with fail
    refine (near_any2 _ _ _ _ _ f _ _ _ _ (h.gr (by repeat (first | exact Gr.refl _ | assumption | exact Dr.gr (by assumption) | refine Gr.alloc ?_ _ | refine Gr.drewN ?_ _ | refine Gr.drew ?_ | refine Gr.trans ?_ (by assumption) | refine Gr.trans ?_ (Dr.gr (by assumption))))) hn6 ha).mono ?_
    rintro e w1 ⟨⟨W, H, g, N, c', F, rfl, hown, hN⟩, hg1⟩
    obtain ⟨-, -, -, -, hsl⟩ := hown.sl
    clear hown
    go_wp2_with fail
    obtain ⟨c1, c2, c3⟩ := tri_at w1 W H (.slice (some ⟨g, 0, none⟩) N c')
    have hg2 : Gr w1 (w1.alloc (.cells #[.int .i64 W, .int .i64 H, .slice (some ⟨g, 0, none⟩) N c'] 24)) := (by repeat (first | exact Gr.refl _ | assumption | exact Dr.gr (by assumption) | refine Gr.alloc ?_ _ | refine Gr.drewN ?_ _ | refine Gr.drew ?_ | refine Gr.trans ?_ (by assumption) | refine Gr.trans ?_ (Dr.gr (by assumption))))
    have hgw : Gr w (w1.alloc (.cells #[.int .i64 W, .int .i64 H, .slice (some ⟨g, 0, none⟩) N c'] 24)) := (by repeat (first | exact Gr.refl _ | assumption | exact Dr.gr (by assumption) | refine Gr.alloc ?_ _ | refine Gr.drewN ?_ _ | refine Gr.drew ?_ | refine Gr.trans ?_ (by assumption) | refine Gr.trans ?_ (Dr.gr (by assumption))))
    replace hsl := hsl.gr hg2
    clear hg2 hg1
    generalize w1.alloc (.cells #[.int .i64 W, .int .i64 H, .slice (some ⟨g, 0, none⟩) N c'] 24) = u0 at *
    generalize w1.heap.size = B at *
    first
      | (go_at_call 10; refine (within_st _ _ _ _ (by omega) (by omega) (by omega)).mono ?_; rintro e w2 ⟨rfl, hw2⟩; subst hw2; generalize withinF l (-1) N = l' at *; go_wp2_with fail; refine (within_st _ _ _ _ (by omega) (by omega) (by omega)).mono ?_; rintro e w2 ⟨rfl, hw2⟩; subst hw2; generalize withinF s 0 256 = s' at *; go_wp2_with fail)
      | (generalize l = l' at *; generalize s = s' at *)
    refine (ownTile_any _ _ _ _ _ F _ hsl (by omega) (by simp)).mono ?_
    rintro e w2 ⟨⟨g2, k2, rfl, hown⟩, hg2⟩
    obtain ⟨-, -, -, -, hsl2⟩ := hown.sl
    clear hown
    replace c1 := cell_gr c1 hg2
    replace c2 := cell_gr c2 hg2
    replace c3 := cell_gr c3 hg2
    replace hgw := hgw.trans hg2
    replace hsl := hsl.gr hg2
    have hB : B < w2.heap.size := World.block_lt_of_cell? w2 ⟨B, 0, none⟩ c1
    clear hg2
    go_wp2_with fail
    obtain ⟨d1, d2, d3⟩ := tri_at w2 W H (.slice (some ⟨g2, 0, none⟩) N k2)
    have hg3 : Gr w2 (w2.alloc (.cells #[.int .i64 W, .int .i64 H, .slice (some ⟨g2, 0, none⟩) N k2] 24)) := (by repeat (first | exact Gr.refl _ | assumption | exact Dr.gr (by assumption) | refine Gr.alloc ?_ _ | refine Gr.drewN ?_ _ | refine Gr.drew ?_ | refine Gr.trans ?_ (by assumption) | refine Gr.trans ?_ (Dr.gr (by assumption))))
    generalize w2.alloc (.cells #[.int .i64 W, .int .i64 H, .slice (some ⟨g2, 0, none⟩) N k2] 24) = u2 at *
    generalize w2.heap.size = B2 at *
    replace c1 := cell_gr c1 hg3
    replace c2 := cell_gr c2 hg3
    replace c3 := cell_gr c3 hg3
    replace hgw := hgw.trans hg3
    replace hsl := hsl.gr hg3
    replace hsl2 := hsl2.gr hg3
    clear hg3 hB
    have hsm := sameTB_refl W H N F
    by_cases hyes : isLocB W H N F l' = true ∧ 1 ≤ s' ∧ s' ≤ 255
    · obtain ⟨hloc, x1, x2⟩ := hyes
      obtain ⟨hm, l1, l2⟩ := (isLocB_iff _ _ _ _ _).1 hloc
      obtain ⟨k, rfl⟩ : ∃ k : Nat, l' = k := ⟨l'.toNat, by omega⟩
      have hk : k < N := by omega
      obtain ⟨G, hG⟩ : ∃ G, G = upd F k s' := ⟨_, rfl⟩
      have hmG : mayTB W H N G = true := by rw [hG]; exact mayTB_upd hm k (by omega)
      have hGk : G k = s' := by rw [hG]; simp [upd]
      have hGj : ∀ j, j ≠ k → G j = F j := fun j hj => by rw [hG]; simp [upd, hj]
      have hatk : atF W H N G k = s' := by simp [atF, isLocB, hmG, hk, hGk]
      have hatj : ∀ j : Nat, j < N → j ≠ k → atF W H N G j = F j := fun j h1 h2 => by simp [atF, isLocB, hmG, h1, hGj j h2]
      have hatF : ∀ j : Nat, j < N → atF W H N F j = F j := fun j h1 => by simp [atF, isLocB, hm, h1]
      have HJ := hide hatj
      have HF := hide hatF
      clear hatj hatF hGk hGj
      refine (with_yes _ _ _ _ _ F k s' _ hsl hloc x1 x2).mono ?_
      rintro e w3 ⟨⟨g3, k3, rfl, -, -, hsl3⟩, hg3⟩
      rw [← hG] at hsl3
      replace c1 := cell_gr c1 hg3
      replace c2 := cell_gr c2 hg3
      replace c3 := cell_gr c3 hg3
      replace d1 := cell_gr d1 hg3
      replace d2 := cell_gr d2 hg3
      replace d3 := cell_gr d3 hg3
      replace hgw := hgw.trans hg3
      replace hsl := hsl.gr hg3
      replace hsl2 := hsl2.gr hg3
      have hB : B < w3.heap.size := World.block_lt_of_cell? w3 ⟨B, 0, none⟩ c1
      have hB2 : B2 < w3.heap.size := World.block_lt_of_cell? w3 ⟨B2, 0, none⟩ d1
      clear hg3 hG
      go_wp2_with fail
      obtain ⟨e1, e2, e3⟩ := tri_at w3 W H (.slice (some ⟨g3, 0, none⟩) N k3)
      have hg3 : Gr w3 (w3.alloc (.cells #[.int .i64 W, .int .i64 H, .slice (some ⟨g3, 0, none⟩) N k3] 24)) := (by repeat (first | exact Gr.refl _ | assumption | exact Dr.gr (by assumption) | refine Gr.alloc ?_ _ | refine Gr.drewN ?_ _ | refine Gr.drew ?_ | refine Gr.trans ?_ (by assumption) | refine Gr.trans ?_ (Dr.gr (by assumption))))
      generalize w3.alloc (.cells #[.int .i64 W, .int .i64 H, .slice (some ⟨g3, 0, none⟩) N k3] 24) = u3 at *
      replace c1 := cell_gr c1 hg3
      replace c2 := cell_gr c2 hg3
      replace c3 := cell_gr c3 hg3
      replace d1 := cell_gr d1 hg3
      replace d2 := cell_gr d2 hg3
      replace d3 := cell_gr d3 hg3
      replace hgw := hgw.trans hg3
      replace hsl := hsl.gr hg3
      replace hsl2 := hsl2.gr hg3
      replace hsl3 := hsl3.gr hg3
      clear hg3 hB hB2
      generalize w3.heap.size = B3 at *
      refine (tmay_any _ _ _ _ _ F _ hsl).mono ?_
      rintro e w4 ⟨rfl, hg4⟩
      rw [hm]
      replace c1 := cell_gr c1 hg4
      replace c2 := cell_gr c2 hg4
      replace c3 := cell_gr c3 hg4
      replace d1 := cell_gr d1 hg4
      replace d2 := cell_gr d2 hg4
      replace d3 := cell_gr d3 hg4
      replace e1 := cell_gr e1 hg4
      replace e2 := cell_gr e2 hg4
      replace e3 := cell_gr e3 hg4
      replace hgw := hgw.trans hg4
      replace hsl := hsl.gr hg4
      replace hsl2 := hsl2.gr hg4
      replace hsl3 := hsl3.gr hg4
      clear hg4
      go_wp2_with fail
      refine (rsameT_any _ _ _ _ _ _ _ _ _ _ F F _ hsl hsl2).mono ?_
      rintro e w5 ⟨rfl, hg5⟩
      rw [hsm]
      replace c1 := cell_gr c1 hg5
      replace c2 := cell_gr c2 hg5
      replace c3 := cell_gr c3 hg5
      replace e1 := cell_gr e1 hg5
      replace e2 := cell_gr e2 hg5
      replace e3 := cell_gr e3 hg5
      replace hgw := hgw.trans hg5
      replace hsl := hsl.gr hg5
      replace hsl3 := hsl3.gr hg5
      clear hg5 d1 d2 d3 hsl2
      go_wp2_with fail
      go_loopw [18] (fun i u => ∃ j : Nat, j ≤ N ∧ i = .int .i64 j ∧ Gr w5 u) (fun i _ => N - (intOf i).toNat)
      case atStart => exact ⟨0, Nat.zero_le _, rfl, Gr.refl _⟩
      case round =>
        obtain ⟨j, hj, rfl, hgr⟩ := hrel
        replace c1 := cell_gr c1 hgr
        replace c2 := cell_gr c2 hgr
        replace c3 := cell_gr c3 hgr
        replace e1 := cell_gr e1 hgr
        replace e2 := cell_gr e2 hgr
        replace e3 := cell_gr e3 hgr
        by_cases hjl : j < N
        · by_cases hjk : j = k
          · subst hjk
            go_wp2_with fail
            go_quiet (fail)
            go_wp2
            go_roundw
            case rel => exact ⟨j + 1, by omega, by go_num, hgr.drewN _⟩
            case measure => simp [intOf]; omega
          · have q1 := HJ.out j hjl hjk
            have q2 := HF.out j hjl
            have q3 : ((j : Int) != (k : Int)) = true := by simp; omega
            generalize F j = z at *
            clear hjk
            replace hsl := hsl.gr hgr
            replace hsl3 := hsl3.gr hgr
            go_wp2_with fail
            go_region_held3 (fun u => u.cell? ⟨B, 0, none⟩ = some (.int .i64 W) ∧ u.cell? ⟨B, 1, none⟩ = some (.int .i64 H) ∧ u.cell? ⟨B, 2, none⟩ = some (.slice (some ⟨g, 0, none⟩) N c') ∧ u.cell? ⟨B3, 0, none⟩ = some (.int .i64 W) ∧ u.cell? ⟨B3, 1, none⟩ = some (.int .i64 H) ∧ u.cell? ⟨B3, 2, none⟩ = some (.slice (some ⟨g3, 0, none⟩) N k3) ∧ Gr wr u) (first | exact ⟨c1, c2, c3, e1, e2, e3, (Gr.refl _).drew⟩ | exact ⟨cell_gr hS.1 hg9, cell_gr hS.2.1 hg9, cell_gr hS.2.2.1 hg9, cell_gr hS.2.2.2.1 hg9, cell_gr hS.2.2.2.2.1 hg9, cell_gr hS.2.2.2.2.2.1 hg9, hS.2.2.2.2.2.2.trans hg9⟩) (first | (go_at_call_of 14 (Value.slice (some (Addr.mk g 0 none)) N c'); have hS := ‹_ ∧ _ ∧ _ ∧ _ ∧ _ ∧ _ ∧ Gr _ _›; refine (at_any _ _ _ _ _ F _ _ (hsl.gr hS.2.2.2.2.2.2)).mono ?_; rintro e w9 ⟨rfl, hg9⟩; rw [q2]) | (go_at_call_of 14 (Value.slice (some (Addr.mk g3 0 none)) N k3); have hS := ‹_ ∧ _ ∧ _ ∧ _ ∧ _ ∧ _ ∧ Gr _ _›; refine (at_any _ _ _ _ _ G _ _ (hsl3.gr hS.2.2.2.2.2.2)).mono ?_; rintro e w9 ⟨rfl, hg9⟩; rw [q1]))
            have hge := (‹_ ∧ _ ∧ _ ∧ _ ∧ _ ∧ _ ∧ Gr _ w9›).2.2.2.2.2.2
            replace hgr := hgr.trans hge
            clear c1 c2 c3 e1 e2 e3
            go_wp2
            go_roundw
            case rel => exact ⟨j + 1, by omega, by go_num, hgr⟩
            case measure => simp [intOf]; omega
        · replace hsl3 := hsl3.gr hgr
          replace hgw := hgw.trans hgr
          clear hgr
          go_wp2_with (first | (go_at_call 8; refine (told_any _).mono ?_; rintro e w9 ⟨rfl, hg9⟩; replace c1 := cell_gr c1 hg9; replace c2 := cell_gr c2 hg9; replace c3 := cell_gr c3 hg9; replace e1 := cell_gr e1 hg9; replace e2 := cell_gr e2 hg9; replace e3 := cell_gr e3 hg9; replace hsl3 := hsl3.gr hg9; replace hgw := hgw.trans hg9; clear hg9) | (go_at_call 13; refine (tmay_any _ _ _ _ _ G _ hsl3).mono ?_; rintro e w9 ⟨rfl, hg9⟩; rw [hmG]; replace c1 := cell_gr c1 hg9; replace c2 := cell_gr c2 hg9; replace c3 := cell_gr c3 hg9; replace e1 := cell_gr e1 hg9; replace e2 := cell_gr e2 hg9; replace e3 := cell_gr e3 hg9; replace hsl3 := hsl3.gr hg9; replace hgw := hgw.trans hg9; clear hg9) | (go_at_call 14; refine (at_any _ _ _ _ _ G _ _ hsl3).mono ?_; rintro e w9 ⟨rfl, hg9⟩; rw [hatk]; replace hgw := hgw.trans hg9; clear hg9))
          go_ret
          exact ⟨ret_bool (by simp), hgw⟩
    · have hno : isLocB W H N F l' = false ∨ s' < 1 ∨ 255 < s' := by
        cases hq : isLocB W H N F l'
        · exact .inl rfl
        · right
          have : ¬ (1 ≤ s' ∧ s' ≤ 255) := fun k => hyes ⟨hq, k⟩
          omega
      refine (with_no _ _ _ _ _ F l' s' _ hsl hno).mono ?_
      rintro e w3 ⟨rfl, hg3⟩
      replace c1 := cell_gr c1 hg3
      replace c2 := cell_gr c2 hg3
      replace c3 := cell_gr c3 hg3
      replace d1 := cell_gr d1 hg3
      replace d2 := cell_gr d2 hg3
      replace d3 := cell_gr d3 hg3
      replace hgw := hgw.trans hg3
      replace hsl := hsl.gr hg3
      replace hsl2 := hsl2.gr hg3
      have hB : B < w3.heap.size := World.block_lt_of_cell? w3 ⟨B, 0, none⟩ c1
      have hB2 : B2 < w3.heap.size := World.block_lt_of_cell? w3 ⟨B2, 0, none⟩ d1
      clear hg3 hyes
      go_wp2_with fail
      obtain ⟨e1, e2, e3⟩ := tri_at w3 0 0 (.slice none 0 0)
      have hg3 : Gr w3 (w3.alloc (.cells #[.int .i64 0, .int .i64 0, .slice none 0 0] 24)) := (by repeat (first | exact Gr.refl _ | assumption | exact Dr.gr (by assumption) | refine Gr.alloc ?_ _ | refine Gr.drewN ?_ _ | refine Gr.drew ?_ | refine Gr.trans ?_ (by assumption) | refine Gr.trans ?_ (Dr.gr (by assumption))))
      generalize w3.alloc (.cells #[.int .i64 0, .int .i64 0, .slice none 0 0] 24) = u3 at *
      replace c1 := cell_gr c1 hg3
      replace c2 := cell_gr c2 hg3
      replace c3 := cell_gr c3 hg3
      replace d1 := cell_gr d1 hg3
      replace d2 := cell_gr d2 hg3
      replace d3 := cell_gr d3 hg3
      replace hgw := hgw.trans hg3
      replace hsl := hsl.gr hg3
      replace hsl2 := hsl2.gr hg3
      clear hg3 hB hB2
      generalize w3.heap.size = B3 at *
      cases hm : mayTB W H N F
      · clear hno
        go_wp2_with (first | (go_at_call 13; refine (tmay_any _ _ _ _ _ F _ hsl).mono ?_; rintro e w9 ⟨rfl, hg9⟩; rw [hm]; replace c1 := cell_gr c1 hg9; replace c2 := cell_gr c2 hg9; replace c3 := cell_gr c3 hg9; replace d1 := cell_gr d1 hg9; replace d2 := cell_gr d2 hg9; replace d3 := cell_gr d3 hg9; replace e1 := cell_gr e1 hg9; replace e2 := cell_gr e2 hg9; replace e3 := cell_gr e3 hg9; replace hsl := hsl.gr hg9; replace hsl2 := hsl2.gr hg9; replace hgw := hgw.trans hg9; clear hg9) | (go_at_call 21; refine (rsameT_any _ _ _ _ _ _ _ _ _ _ F F _ hsl hsl2).mono ?_; rintro e w9 ⟨rfl, hg9⟩; rw [hsm]; replace c1 := cell_gr c1 hg9; replace c2 := cell_gr c2 hg9; replace c3 := cell_gr c3 hg9; replace e1 := cell_gr e1 hg9; replace e2 := cell_gr e2 hg9; replace e3 := cell_gr e3 hg9; replace hsl := hsl.gr hg9; replace hgw := hgw.trans hg9; clear d1 d2 d3 hg9) | (go_at_call 8; refine (told_any _).mono ?_; rintro e w9 ⟨rfl, hg9⟩; replace c1 := cell_gr c1 hg9; replace c2 := cell_gr c2 hg9; replace c3 := cell_gr c3 hg9; replace e1 := cell_gr e1 hg9; replace e2 := cell_gr e2 hg9; replace e3 := cell_gr e3 hg9; replace hgw := hgw.trans hg9; clear hg9))
        go_ret
        exact ⟨rfl, hgw⟩
      · by_cases hl1 : 0 ≤ l'
        · by_cases hl2 : l' < N
          · have hs : s' < 1 ∨ 255 < s' := by
              rcases hno with hno | hno
              · simp [isLocB, hm, hl1, hl2] at hno
              · exact hno
            clear hno
            rcases hs with hs | hs
            all_goals
              go_wp2_with (first | (go_at_call 13; refine (tmay_any _ _ _ _ _ F _ hsl).mono ?_; rintro e w9 ⟨rfl, hg9⟩; rw [hm]; replace c1 := cell_gr c1 hg9; replace c2 := cell_gr c2 hg9; replace c3 := cell_gr c3 hg9; replace d1 := cell_gr d1 hg9; replace d2 := cell_gr d2 hg9; replace d3 := cell_gr d3 hg9; replace e1 := cell_gr e1 hg9; replace e2 := cell_gr e2 hg9; replace e3 := cell_gr e3 hg9; replace hsl := hsl.gr hg9; replace hsl2 := hsl2.gr hg9; replace hgw := hgw.trans hg9; clear hg9) | (go_at_call 21; refine (rsameT_any _ _ _ _ _ _ _ _ _ _ F F _ hsl hsl2).mono ?_; rintro e w9 ⟨rfl, hg9⟩; rw [hsm]; replace c1 := cell_gr c1 hg9; replace c2 := cell_gr c2 hg9; replace c3 := cell_gr c3 hg9; replace e1 := cell_gr e1 hg9; replace e2 := cell_gr e2 hg9; replace e3 := cell_gr e3 hg9; replace hsl := hsl.gr hg9; replace hgw := hgw.trans hg9; clear d1 d2 d3 hg9) | (go_at_call 8; refine (told_any _).mono ?_; rintro e w9 ⟨rfl, hg9⟩; replace c1 := cell_gr c1 hg9; replace c2 := cell_gr c2 hg9; replace c3 := cell_gr c3 hg9; replace e1 := cell_gr e1 hg9; replace e2 := cell_gr e2 hg9; replace e3 := cell_gr e3 hg9; replace hgw := hgw.trans hg9; clear hg9))
              go_ret
              exact ⟨rfl, hgw⟩
          · clear hno
            go_wp2_with (first | (go_at_call 13; refine (tmay_any _ _ _ _ _ F _ hsl).mono ?_; rintro e w9 ⟨rfl, hg9⟩; rw [hm]; replace c1 := cell_gr c1 hg9; replace c2 := cell_gr c2 hg9; replace c3 := cell_gr c3 hg9; replace d1 := cell_gr d1 hg9; replace d2 := cell_gr d2 hg9; replace d3 := cell_gr d3 hg9; replace e1 := cell_gr e1 hg9; replace e2 := cell_gr e2 hg9; replace e3 := cell_gr e3 hg9; replace hsl := hsl.gr hg9; replace hsl2 := hsl2.gr hg9; replace hgw := hgw.trans hg9; clear hg9) | (go_at_call 21; refine (rsameT_any _ _ _ _ _ _ _ _ _ _ F F _ hsl hsl2).mono ?_; rintro e w9 ⟨rfl, hg9⟩; rw [hsm]; replace c1 := cell_gr c1 hg9; replace c2 := cell_gr c2 hg9; replace c3 := cell_gr c3 hg9; replace e1 := cell_gr e1 hg9; replace e2 := cell_gr e2 hg9; replace e3 := cell_gr e3 hg9; replace hsl := hsl.gr hg9; replace hgw := hgw.trans hg9; clear d1 d2 d3 hg9) | (go_at_call 8; refine (told_any _).mono ?_; rintro e w9 ⟨rfl, hg9⟩; replace c1 := cell_gr c1 hg9; replace c2 := cell_gr c2 hg9; replace c3 := cell_gr c3 hg9; replace e1 := cell_gr e1 hg9; replace e2 := cell_gr e2 hg9; replace e3 := cell_gr e3 hg9; replace hgw := hgw.trans hg9; clear hg9))
            go_ret
            exact ⟨rfl, hgw⟩
        · clear hno
          go_wp2_with (first | (go_at_call 13; refine (tmay_any _ _ _ _ _ F _ hsl).mono ?_; rintro e w9 ⟨rfl, hg9⟩; rw [hm]; replace c1 := cell_gr c1 hg9; replace c2 := cell_gr c2 hg9; replace c3 := cell_gr c3 hg9; replace d1 := cell_gr d1 hg9; replace d2 := cell_gr d2 hg9; replace d3 := cell_gr d3 hg9; replace e1 := cell_gr e1 hg9; replace e2 := cell_gr e2 hg9; replace e3 := cell_gr e3 hg9; replace hsl := hsl.gr hg9; replace hsl2 := hsl2.gr hg9; replace hgw := hgw.trans hg9; clear hg9) | (go_at_call 21; refine (rsameT_any _ _ _ _ _ _ _ _ _ _ F F _ hsl hsl2).mono ?_; rintro e w9 ⟨rfl, hg9⟩; rw [hsm]; replace c1 := cell_gr c1 hg9; replace c2 := cell_gr c2 hg9; replace c3 := cell_gr c3 hg9; replace e1 := cell_gr e1 hg9; replace e2 := cell_gr e2 hg9; replace e3 := cell_gr e3 hg9; replace hsl := hsl.gr hg9; replace hgw := hgw.trans hg9; clear d1 d2 d3 hg9) | (go_at_call 8; refine (told_any _).mono ?_; rintro e w9 ⟨rfl, hg9⟩; replace c1 := cell_gr c1 hg9; replace c2 := cell_gr c2 hg9; replace c3 := cell_gr c3 hg9; replace e1 := cell_gr e1 hg9; replace e2 := cell_gr e2 hg9; replace e3 := cell_gr e3 hg9; replace hgw := hgw.trans hg9; clear hg9))
          go_ret
          exact ⟨rfl, hgw⟩

end Go.Proofs.Ytafghafdapiadaa
