/- The document's Seeds of numbers: some seeds that may be, of the call's own. No condition. -/
import Derived.Test.YtigoehoaplndiaaSRMay8
namespace Go.Proofs.Ytigoehoaplndiaa
open Go.RowKit
set_option maxRecDepth 20000

theorem row3 {u : World} {p : Nat} {x y z : Int} (h : u.rowIs p 39 3 (tri (.int .i64 x) (.int .i64 y) (.int .i64 z))) : (u.cell? ⟨p, 0, none⟩ = some (.int .i64 x) ∧ u.cell? ⟨p, 1, none⟩ = some (.int .i64 y) ∧ u.cell? ⟨p, 2, none⟩ = some (.int .i64 z)) ∧ ∀ i, u.frozen? ⟨p, i, none⟩ = false :=
  ⟨⟨h.cell (i := 0) (by omega), h.cell (i := 1) (by omega), h.cell (i := 2) (by omega)⟩, fun i => h.frozen i⟩

theorem tri_set1 (x y z v : Value) : ∀ i, i < 3 → (fun j => if j = 1 then v else tri x y z j) i = tri x v z i := by
  intro i hi
  rcases (by omega : i = 0 ∨ i = 1 ∨ i = 2) with rfl | rfl | rfl <;> rfl
theorem tri_set2 (x y z v : Value) : ∀ i, i < 3 → (fun j => if j = 2 then v else tri x y z j) i = tri x y v i := by
  intro i hi
  rcases (by omega : i = 0 ∨ i = 1 ∨ i = 2) with rfl | rfl | rfl <;> rfl
/-- a seed as the document's Seeds makes it -/
def sdOk (W H : Int) (n : Nat) (f : Nat → Int) (x : Sd) : Prop := ∃ C : Nat, x.1 = (C : Int) ∧ C < n ∧ f C ≠ 255 ∧ (0 ≤ x.2.2 ∧ x.2.2 ≤ 1073741824) ∧ (0 ≤ x.2.1 ∧ x.2.1 ≤ 4) ∧ (x.2.1 = 4 ∨ stepF W H (C : Int) x.2.1 < 0)
theorem mayS_ok {W H : Int} {n : Nat} {f : Nat → Int} {M : List Sd} (hm : mayTB W H n f = true) (hb : ∀ i, i < n → 0 ≤ f i ∧ f i ≤ 255) (h : ∀ x, x ∈ M → sdOk W H n f x) : mayS W H n f M = true := by
  refine mayS_yes rfl hm fun j hj => ?_
  obtain ⟨C, e, h1, h2, h3, h4, h5⟩ := h _ (el_mem hj)
  refine (okS_iff hm hb).2 ⟨by omega, ?_, h3, h4, ?_⟩
  · rw [e]; exact h2
  · rcases h5 with h5 | h5
    · exact .inl h5
    · refine .inr ?_
      have hl : isLocB W H n f (C : Int) = true := (isLocB_iff _ _ _ _ _).2 ⟨hm, by omega, by omega⟩
      rw [e]
      simp only [nearF, hl, if_true]
      exact h5
set_option maxHeartbeats 4000000 in
theorem xseeds_any (W H : Int) (a : Option Addr) (n cap : Nat) (f : Nat → Int) (al : Option Addr) (m c : Nat) (z : Nat → Int) (w : World) (h : Sl w a n f) (hn : 1 ≤ n) (hn2 : n ≤ 1000) (g : SlI w al m z) (hm : m ≤ 60) :
    Calls Try.prog 11 #[.agg #[.int .i64 W, .int .i64 H, .slice a n cap], .slice al m c] w fun e w' => (∃ a' c' k M, e = .returned (.slice a' k c') ∧ k ≤ m ∧ Hid (M.length = k ∧ ∀ x, x ∈ M → sdOk W H n f x) ∧ w'.ownsRow w.heap.size 39 3 (.slice a' k c') k (flatS M)) ∧ Gr w w' := by
  obtain ⟨c1, c2, c3⟩ := tri_at w W H (.slice a n cap)
  have hg1 : Gr w (w.alloc (.cells #[.int .i64 W, .int .i64 H, .slice a n cap] 24)) := (Gr.refl w).alloc _
  go_enter Try.func11, Try.ntmps11
  go_wp2_with fail
  generalize hw1 : (w.alloc (.cells #[.int .i64 W, .int .i64 H, .slice a n cap] 24)) = w1 at *
  generalize hB0 : w.heap.size = B0 at *
  have hB01 : B0 ≤ w1.heap.size := by rw [← hB0]; exact hg1.size
  clear hw1
  have hsl := h.gr hg1
  have hl := g.gr hg1
  clear h g
  obtain ⟨b, ao, rfl, hb, hcell⟩ := hsl.at (by omega)
  have HC := hide hcell
  clear hcell hsl
  go_loopw [5, 6] (fun v i u => ∃ (s k c1 : Nat) (a1 : Option Addr) (M : List Sd), s ≤ m ∧ k ≤ s ∧ i = .int .i64 s ∧ v = .slice a1 k c1 ∧ Hid (M.length = k ∧ ∀ x, x ∈ M → sdOk W H n f x) ∧ u.ownsRow w1.heap.size 39 3 (.slice a1 k c1) k (flatS M) ∧ Gr w1 u) (fun _ i _ => m - (intOf i).toNat)
  case atStart => exact ⟨0, 0, 0, none, [], by omega, by omega, rfl, rfl, hide ⟨rfl, fun _ h => absurd h List.not_mem_nil⟩, World.ownsRow_nil _ _ _ _, Gr.refl _⟩
  case round =>
    obtain ⟨s, k, c1', a1, M, hs, hk, rfl, rfl, HM, hown, hg⟩ := hrel
    generalize wr = w2 at *
    have d1 := cell_gr c1 hg
    have d2 := cell_gr c2 hg
    have d3 := cell_gr c3 hg
    by_cases hsn : s < m
    · have hsn2 : (s : Int) < (m : Int) := by omega
      obtain ⟨bl, ol, rfl, hbl, hcl⟩ := hl.at (by omega)
      have l1 := cell_gr (hcl s hsn) hg
      obtain ⟨v, hv⟩ : ∃ v, v = z s := ⟨_, rfl⟩
      rw [← hv] at l1
      clear hcl hv
      obtain ⟨b1, b2⟩ := within_bd v 0 ((n : Int) - 1) (by omega)
      obtain ⟨C, hC⟩ : ∃ C : Nat, withinF v 0 ((n : Int) - 1) = (C : Int) := ⟨_, (Int.toNat_of_nonneg b1).symm⟩
      have hCn : C < n := by rw [hC] at b2; omega
      have hCi : (C : Int) < (n : Int) := by omega
      have HCC := hide hC
      have hwr : IntKind.i64.wrap ((n : Int) - 1) = (n : Int) - 1 := wrapI (by omega)
      clear hC b1 b2
      go_wp2_with fail
      go_region_held3 (fun u => u.cell? ⟨bl, ol + s, none⟩ = some (.int .i64 v) ∧ u.cell? ⟨B0, 2, none⟩ = some (.slice (some ⟨b, ao, none⟩) n cap) ∧ Gr w2 u) (first | exact ⟨l1, d3, (Gr.refl _).drew⟩ | exact ⟨cell_gr hS.1 hg9, cell_gr hS.2.1 hg9, hS.2.2.trans hg9⟩) (first | (go_at_call 19; have hS := ‹_ ∧ _ ∧ Gr _ _›; refine (within_any _ _ _ _ (by omega) (by omega) (by omega)).mono ?_; rintro e9 w9 ⟨rfl, hd9⟩; have hg9 := hd9.gr))
      rw [HCC.out]
      have hg2 : Gr w2 w9 := (Gr.refl _).drew.trans hg9
      replace hg := hg.trans hg2
      replace d1 := cell_gr d1 hg2
      replace d2 := cell_gr d2 hg2
      replace d3 := cell_gr d3 hg2
      replace l1 := cell_gr l1 hg2
      have hown9 := own_gr3 hown hg2
      have t1 := cell_gr (HC.out C hCn) hg
      obtain ⟨bv, hbv⟩ : ∃ bv, bv = f C := ⟨_, rfl⟩
      rw [← hbv] at t1
      have HBV := hide hbv
      clear hbv hown hg2 hg9 hd9 hS
      generalize w9 = w3 at *
      by_cases kb : bv = 255
      · have eb : (bv == 255) = true := by simp [kb]
        clear kb
        go_wp2
        go_roundw
        case rel => exact ⟨s + 1, k, c1', a1, M, hsn, by omega, by go_num, rfl, HM, hown9, hg⟩
        case measure => simp [intOf]; omega
      · have eb : (bv == 255) = false := by simp [kb]
        have HFC : Hid (f C ≠ 255) := hide (by rw [← HBV.out]; exact kb)
        clear kb
        go_wp2_with fail
        refine (within_any _ 0 900 _ (by omega) (by omega) (by omega)).mono ?_
        rintro e w4 ⟨rfl, hd4⟩
        generalize hKe : withinF _ 0 900 = K
        have HKB : Hid (0 ≤ K ∧ K ≤ 900) := hide (by rw [← hKe]; exact within_bd _ _ _ (by omega))
        clear hKe
        have hg4 := hd4.gr
        replace hg := hg.trans hg4
        replace d1 := cell_gr d1 hg4
        replace d2 := cell_gr d2 hg4
        replace l1 := cell_gr l1 hg4
        replace hown9 := own_gr3 hown9 hg4
        clear hd4 hg4 t1 d3 eb hwr
        have hrow := tri_alloc w4 (.int .i64 (C : Int)) (.int .i64 4) (.int .i64 K) 39
        obtain ⟨u1, hu1⟩ : ∃ u1, u1 = w4.alloc (.cells #[.int .i64 (C : Int), .int .i64 4, .int .i64 K] 39) := ⟨_, rfl⟩
        rw [← hu1] at hrow
        have hgu : Gr w4 u1 := hu1 ▸ (Gr.refl w4).alloc _
        go_upto_region 8 with fail
        rw [← hu1]
        clear hu1
        obtain ⟨BX, hBX⟩ : ∃ BX, BX = w4.heap.size := ⟨_, rfl⟩
        rw [← hBX] at hrow ⊢
        have HBX := hide hBX
        clear hBX
        have l2 := cell_gr l1 hgu
        have e1 := cell_gr d1 hgu
        have e2 := cell_gr d2 hgu
        go_wp2_with fail
        refine (within_any _ 0 4 _ (by omega) (by omega) (by omega)).mono ?_
        rintro e u2 ⟨rfl, hd5⟩
        generalize hSe : withinF _ 0 4 = S1
        have HSB : Hid (0 ≤ S1 ∧ S1 ≤ 4) := hide (by rw [← hSe]; exact within_bd _ _ _ (by omega))
        clear hSe
        replace l2 := cell_gr l2 hd5.gr
        replace e1 := cell_gr e1 hd5.gr
        replace e2 := cell_gr e2 hd5.gr
        replace hrow := row_gr hrow hd5.gr
        replace hgu := hgu.trans hd5.gr
        clear hd5
        go_wp2_with fail
        refine (rstep_any W H (C : Int) S1 _).mono ?_
        rintro e u3 ⟨rfl, hd6⟩
        generalize hSt : stepF W H (C : Int) S1 = st
        have HST := hide hSt
        clear hSt
        replace l2 := cell_gr l2 hd6.gr
        replace hrow := row_gr hrow hd6.gr
        replace hgu := hgu.trans hd6.gr
        clear hd6 e1 e2
        go_upto_if 52 with fail
        go_cut [] from 53 to 70 (fun u => ∃ S : Int, Hid ((0 ≤ S ∧ S ≤ 4) ∧ (S = 4 ∨ stepF W H (C : Int) S < 0)) ∧ u.rowIs BX 39 3 (tri (.int .i64 (C : Int)) (.int .i64 S) (.int .i64 K)) ∧ Gr w4 u)
        case first =>
          obtain ⟨⟨r1, r2, r3⟩, hfz⟩ := row3 hrow
          by_cases hst : st < 0
          · go_wp2_with fail
            go_meet
            exact ⟨S1, hide ⟨HSB.out, .inr (by rw [HST.out]; exact hst)⟩, (hrow.set 1 _).congr (tri_set1 _ _ _ _), hgu.set (by rw [HBX.out]; exact Nat.le_refl _) _⟩
          · go_wp2_with fail
            go_meet
            exact ⟨4, hide ⟨by omega, .inl rfl⟩, hrow, hgu⟩
        case rest =>
          obtain ⟨S2, HS2, hrow2, hgc⟩ := hcut
          clear hrow l2 hgu
          generalize wc = u4 at *
          have l3 := cell_gr l1 hgc
          go_upto_if 60 with fail
          obtain ⟨tm, htm⟩ : ∃ tm, tm = v.tmod 11 := ⟨_, rfl⟩
          rw [← htm]
          clear htm
          go_cut [] from 61 to 70 (fun u => ∃ K2 : Int, Hid (0 ≤ K2 ∧ K2 ≤ 1073741824) ∧ u.rowIs BX 39 3 (tri (.int .i64 (C : Int)) (.int .i64 S2) (.int .i64 K2)) ∧ Gr w4 u)
          case first =>
            obtain ⟨⟨r1, r2, r3⟩, hfz⟩ := row3 hrow2
            by_cases hq : tm = 0
            · subst hq
              go_wp2_with fail
              refine (within_any _ 0 1073741824 _ (by omega) (by omega) (by omega)).mono ?_
              rintro e u5 ⟨rfl, hd6⟩
              generalize hKe : withinF _ 0 1073741824 = K3
              have HK3 : Hid (0 ≤ K3 ∧ K3 ≤ 1073741824) := hide (by rw [← hKe]; exact within_bd _ _ _ (by omega))
              clear hKe
              have hrow3 := row_gr hrow2 hd6.gr
              have hg6 := hgc.trans hd6.gr
              clear r1 r2 r3 hfz l3
              obtain ⟨⟨r1, r2, r3⟩, hfz⟩ := row3 hrow3
              go_wp2_with fail
              go_meet
              exact ⟨K3, HK3, (hrow3.set 2 _).congr (tri_set2 _ _ _ _), hg6.set (by rw [HBX.out]; exact Nat.le_refl _) _⟩
            · have hq' : (tm == 0) = false := by simpa using hq
              clear hq
              go_wp2_with fail
              go_meet
              exact ⟨K, hide (by have := HKB.out; omega), hrow2, hgc⟩
          case rest =>
            obtain ⟨K2, HK2, hrow3, hgd⟩ := hcut
            clear hrow2 hgc l3
            generalize wc = u5 at *
            obtain ⟨⟨r1, r2, r3⟩, -⟩ := row3 hrow3
            have hown5 := own_gr3 hown9 hgd
            have hgg := hg.trans hgd
            have hk1 : k + 1 ≤ 100 := by omega
            clear hrow3 hown9
            go_wp2_with (at_builtin; refine wpList_seeds rfl (.tmp 67) (.tmp 69) rfl w1.heap.size _ k (flatS M) rfl (hown5.alloc _) _ 1 1 [((C : Int), S2, K2)] rfl (seeds_one _ ((C : Int), S2, K2)) (by omega) (N := k + 1) rfl (Nat.le_trans hgg.size (by simp)) ?_; intro a7 c7 w7 hown7 hgrow7)
            go_roundw
            case rel => exact ⟨s + 1, k + 1, c7, a7, M ++ [((C : Int), S2, K2)], hsn, by omega, by go_num, rfl, hide ⟨by rw [List.length_append, HM.out.1]; rfl, fun x hx => by
              rcases List.mem_append.1 hx with hx | hx
              · exact HM.out.2 x hx
              · obtain rfl := List.mem_singleton.1 hx
                exact ⟨C, rfl, hCn, HFC.out, HK2.out, HS2.out.1, HS2.out.2⟩⟩, by rw [flatS_app]; exact hown7, (hgg.alloc _).grown hgrow7 (fun b e => (hown5.lt b e).1)⟩
            case measure => simp [intOf]; omega
    · have : s = m := by omega
      subst this
      go_wp2
      go_ret
      exact ⟨⟨_, _, k, M, rfl, hk, HM, by rw [hB0]; exact own_base hown hB01⟩, (show Gr w w1 from by assumption).trans hg⟩

end Go.Proofs.Ytigoehoaplndiaa
