/- The law's few: at most 24 numbers. No condition. -/
import Derived.Test.YtlnbolaaaahoaaaBX1
import Derived.Test.YtlnbolaaaahoaaaBS3
import Derived.Test.YtlnbolaaaahoaaaBM
import Derived.Test.YtlnbolaaaahoaaaBT
namespace Go.Proofs.Ytlnbolaaaahoaaa
open Go.RowKit
set_option maxRecDepth 20000

theorem sds_of {W H : Int} {n : Nat} {f : Nat → Int} {L : List Sd} (hb : ∀ i, i < n → 0 ≤ f i ∧ f i ≤ 255) (h : mayS W H n f L = true) : mayTB W H n f = true ∧ Sds f n 1073741824 L := by
  unfold mayS at h
  rw [Bool.and_eq_true, decide_eq_true_iff] at h
  refine ⟨h.1, fun x hx => ?_⟩
  obtain ⟨i, hi, rfl⟩ := mem_el hx
  obtain ⟨k1, k2, k3, k4, k5⟩ := (okS_iff h.1 hb).1 (h.2 i hi)
  exact ⟨(el L i).1.toNat, by omega, by omega, k2, k3.1, k3.2⟩

set_option maxHeartbeats 1000000 in
theorem spread_no {W H : Int} {al : Option Addr} {n cap : Nat} {f : Nat → Int} {bl : Option Addr} {m c : Nat} {L : List Sd} {w : World}
    (h : Sl w al n f) (g : SlS w bl m c L) (hmay : mayS W H n f L = false) :
    Calls Try.prog 25 #[.agg #[.int .i64 W, .int .i64 H, .slice al n cap], .slice bl m c] w fun e w' => e = .returned (.tuple #[.slice none 0 0, .int .i64 1]) ∧ Gr w w' := by
  obtain ⟨c1, c2, c3⟩ := tri_at w W H (.slice al n cap)
  have hg1 : Gr w (w.alloc (.cells #[.int .i64 W, .int .i64 H, .slice al n cap] 24)) := (Gr.refl w).alloc _
  go_enter Try.func25, Try.ntmps25
  go_wp2_with fail
  generalize (w.alloc (.cells #[.int .i64 W, .int .i64 H, .slice al n cap] 24)) = w1 at *
  refine (smay_any W H al n cap f bl m c L w1 (h.gr hg1) (g.gr hg1)).mono ?_
  rintro e w2 ⟨rfl, hg2⟩
  rw [hmay]
  go_wp2_with fail
  go_ret2
  exact ⟨rfl, hg1.trans hg2⟩

set_option maxHeartbeats 4000000 in
theorem spread_yes {W H : Int} {al : Option Addr} {n cap : Nat} {f : Nat → Int} {bl : Option Addr} {m c : Nat} {L : List Sd} {K : Int} {w : World}
    (h : Sl w al n f) (g : SlS w bl m c L) (ha : bl = none ∨ ∃ b o, bl = some ⟨b, o, none⟩) (hmay : mayS W H n f L = true) (hs : Sds f n K L) (hK0 : 0 ≤ K) (hK : K ≤ 1073741824) (hm8 : m ≤ 800000) :
    Calls Try.prog 25 #[.agg #[.int .i64 W, .int .i64 H, .slice al n cap], .slice bl m c] w fun e w' => (∃ g cf F, e = .returned (.tuple #[.slice (some ⟨g, 0, none⟩) n cf, .int .i64 0]) ∧ w.heap.size ≤ g ∧ FarS w' g cf n F ∧ Sprd (nearF W H n f) f n L F ∧ ∀ i, i < n → F i < 1099511627776 → F i ≤ K + 254 * 255) ∧ Gr w w' := by
  have hm := (sds_of h.byte hmay).1
  have hlen := g.len.1
  have hsl := srt_len L
  obtain ⟨c1, c2, c3⟩ := tri_at w W H (.slice al n cap)
  have hg1 : Gr w (w.alloc (.cells #[.int .i64 W, .int .i64 H, .slice al n cap] 24)) := (Gr.refl w).alloc _
  go_enter Try.func25, Try.ntmps25
  go_wp2_with fail
  generalize (w.alloc (.cells #[.int .i64 W, .int .i64 H, .slice al n cap] 24)) = w1 at *
  generalize hB0 : w.heap.size = B0 at *
  refine (smay_any W H al n cap f bl m c L w1 (h.gr hg1) (g.gr hg1)).mono ?_
  rintro e w2 ⟨rfl, hg2⟩
  rw [hmay]
  replace c1 := cell_gr c1 hg2
  replace c2 := cell_gr c2 hg2
  replace c3 := cell_gr c3 hg2
  have hgr := hg1.trans hg2
  have hw2 := Below.size hgr
  replace h := h.gr hgr
  replace g := g.gr hgr
  have HLEN := hide hlen
  have HSL := hide hsl
  clear hmay hg1 hg2 hlen hsl
  go_upto_region 3 with fail
  go_region_held3 (fun u => u.cell? ⟨B0, 0, none⟩ = some (.int .i64 W) ∧ u.cell? ⟨B0, 1, none⟩ = some (.int .i64 H) ∧ u.cell? ⟨B0, 2, none⟩ = some (.slice al n cap)) (first | exact ⟨c1, c2, c3⟩ | exact ⟨cell_gr c1 hg9, cell_gr c2 hg9, cell_gr c3 hg9⟩) (first
    | (go_at_call 36; refine (sort_any bl m c L _ (g.gr ((Gr.refl w2).drew)) ha (by omega)).mono ?_; rintro e w3 ⟨⟨a3, c3', m3, hm3, rfl, hown⟩, hg3⟩; have HM3 := hide hm3; clear hm3; have hg9 : Gr w2 w3 := ((Gr.refl w2).drew).trans hg3)
    | (go_at_call 35; have hs3 := SlS.of_own hown HM3.out.symm; obtain ⟨a4, c4, e4, hs4⟩ := hs3; cases e4; refine (xspread_any (h.gr (((Gr.refl w2).drew).trans hg3)) hm hs4 hs hK0 hK (by have := HM3.out; have := HLEN.out; have := HSL.out; omega)).mono ?_; rintro e w4 ⟨⟨g4, cf, F, rfl, hge, hfar, hsp, hbd⟩, hg4⟩; have hge2 : w2.heap.size ≤ g4 := Nat.le_trans (Below.size hg9) hge; have hg9 : Gr w2 w4 := ((Gr.refl w2).drew).trans (hg3.trans hg4)))
  have HSP := hide hsp
  have HBD := hide hbd
  clear hsp hbd
  go_wp2_with fail
  go_ret2
  exact ⟨⟨g4, cf, F, rfl, by omega, hfar, HSP.out, HBD.out⟩, hgr.trans hg9⟩

theorem row3 {u : World} {p : Nat} {x y z : Int} (h : u.rowIs p 50 3 (tri (.int .i64 x) (.int .i64 y) (.int .i64 z))) : (u.cell? ⟨p, 0, none⟩ = some (.int .i64 x) ∧ u.cell? ⟨p, 1, none⟩ = some (.int .i64 y) ∧ u.cell? ⟨p, 2, none⟩ = some (.int .i64 z)) ∧ ∀ i, u.frozen? ⟨p, i, none⟩ = false :=
  ⟨⟨h.cell (i := 0) (by omega), h.cell (i := 1) (by omega), h.cell (i := 2) (by omega)⟩, fun i => h.frozen i⟩

theorem tri_set1 (x y z v : Value) : ∀ i, i < 3 → (fun j => if j = 1 then v else tri x y z j) i = tri x v z i := by
  intro i hi
  rcases (by omega : i = 0 ∨ i = 1 ∨ i = 2) with rfl | rfl | rfl <;> rfl
theorem tri_set2 (x y z v : Value) : ∀ i, i < 3 → (fun j => if j = 2 then v else tri x y z j) i = tri x y v i := by
  intro i hi
  rcases (by omega : i = 0 ∨ i = 1 ∨ i = 2) with rfl | rfl | rfl <;> rfl
/-- a seed as the document's Seeds makes it -/
def sdOk (W H : Int) (n : Nat) (f : Nat → Int) (x : Sd) : Prop := ∃ C : Nat, x.1 = (C : Int) ∧ C < n ∧ f C ≠ 255 ∧ (0 ≤ x.2.2 ∧ x.2.2 ≤ 1073741824) ∧ (0 ≤ x.2.1 ∧ x.2.1 ≤ 4) ∧ (x.2.1 = 4 ∨ stepF W H (C : Int) x.2.1 < 0)
theorem mayS_ok {W H : Int} {n : Nat} {f : Nat → Int} {M : List Sd} (hm : mayTB W H n f = true) (hb : ∀ i, i < n → 0 ≤ f i ∧ f i ≤ 255) (h : ∀ x, x ∈ M → sdOk W H n f x) : mayS W H n f M = true := by
  refine mayS_yes rfl hm fun j hj => ?_
  obtain ⟨C, e, h1, h2, h3, h4, h5⟩ := h _ (el_mem hj)
  refine (okS_iff hm hb).2 ⟨by omega, ?_, h3, h4, ?_⟩
  · rw [e]; exact h2
  · rcases h5 with h5 | h5
    · exact .inl h5
    · refine .inr ?_
      have hl : isLocB W H n f (C : Int) = true := (isLocB_iff _ _ _ _ _).2 ⟨hm, by omega, by omega⟩
      rw [e]
      simp only [nearF, hl, if_true]
      exact h5
set_option maxHeartbeats 4000000 in
theorem xseeds_any (W H : Int) (a : Option Addr) (n cap : Nat) (f : Nat → Int) (al : Option Addr) (m c : Nat) (z : Nat → Int) (w : World) (h : Sl w a n f) (hn : 1 ≤ n) (hn2 : n ≤ 1000) (g : SlI w al m z) (hm : m ≤ 60) :
    Calls Try.prog 11 #[.agg #[.int .i64 W, .int .i64 H, .slice a n cap], .slice al m c] w fun e w' => (∃ a' c' k M, e = .returned (.slice a' k c') ∧ k ≤ m ∧ Hid (M.length = k ∧ ∀ x, x ∈ M → sdOk W H n f x) ∧ w'.ownsRow w.heap.size 50 3 (.slice a' k c') k (flatS M)) ∧ Gr w w' := by
  obtain ⟨c1, c2, c3⟩ := tri_at w W H (.slice a n cap)
  have hg1 : Gr w (w.alloc (.cells #[.int .i64 W, .int .i64 H, .slice a n cap] 24)) := (Gr.refl w).alloc _
  go_enter Try.func11, Try.ntmps11
  go_wp2_with fail
  generalize hw1 : (w.alloc (.cells #[.int .i64 W, .int .i64 H, .slice a n cap] 24)) = w1 at *
  generalize hB0 : w.heap.size = B0 at *
  have hB01 : B0 ≤ w1.heap.size := by rw [← hB0]; exact hg1.size
  clear hw1
  have hsl := h.gr hg1
  have hl := g.gr hg1
  clear h g
  obtain ⟨b, ao, rfl, hb, hcell⟩ := hsl.at (by omega)
  have HC := hide hcell
  clear hcell hsl
  go_loopw [5, 6] (fun v i u => ∃ (s k c1 : Nat) (a1 : Option Addr) (M : List Sd), s ≤ m ∧ k ≤ s ∧ i = .int .i64 s ∧ v = .slice a1 k c1 ∧ Hid (M.length = k ∧ ∀ x, x ∈ M → sdOk W H n f x) ∧ u.ownsRow w1.heap.size 50 3 (.slice a1 k c1) k (flatS M) ∧ Gr w1 u) (fun _ i _ => m - (intOf i).toNat)
  case atStart => exact ⟨0, 0, 0, none, [], by omega, by omega, rfl, rfl, hide ⟨rfl, fun _ h => absurd h List.not_mem_nil⟩, World.ownsRow_nil _ _ _ _, Gr.refl _⟩
  case round =>
    obtain ⟨s, k, c1', a1, M, hs, hk, rfl, rfl, HM, hown, hg⟩ := hrel
    generalize wr = w2 at *
    have d1 := cell_gr c1 hg
    have d2 := cell_gr c2 hg
    have d3 := cell_gr c3 hg
    by_cases hsn : s < m
    · have hsn2 : (s : Int) < (m : Int) := by omega
      obtain ⟨bl, ol, rfl, hbl, hcl⟩ := hl.at (by omega)
      have l1 := cell_gr (hcl s hsn) hg
      obtain ⟨v, hv⟩ : ∃ v, v = z s := ⟨_, rfl⟩
      rw [← hv] at l1
      clear hcl hv
      obtain ⟨b1, b2⟩ := within_bd v 0 ((n : Int) - 1) (by omega)
      obtain ⟨C, hC⟩ : ∃ C : Nat, withinF v 0 ((n : Int) - 1) = (C : Int) := ⟨_, (Int.toNat_of_nonneg b1).symm⟩
      have hCn : C < n := by rw [hC] at b2; omega
      have hCi : (C : Int) < (n : Int) := by omega
      have HCC := hide hC
      have hwr : IntKind.i64.wrap ((n : Int) - 1) = (n : Int) - 1 := wrapI (by omega)
      clear hC b1 b2
      go_wp2_with fail
      go_region_held3 (fun u => u.cell? ⟨bl, ol + s, none⟩ = some (.int .i64 v) ∧ u.cell? ⟨B0, 2, none⟩ = some (.slice (some ⟨b, ao, none⟩) n cap) ∧ Gr w2 u) (first | exact ⟨l1, d3, (Gr.refl _).drew⟩ | exact ⟨cell_gr hS.1 hg9, cell_gr hS.2.1 hg9, hS.2.2.trans hg9⟩) (first | (go_at_call 19; have hS := ‹_ ∧ _ ∧ Gr _ _›; refine (within_any _ _ _ _ (by omega) (by omega) (by omega)).mono ?_; rintro e9 w9 ⟨rfl, hd9⟩; have hg9 := hd9.gr))
      rw [HCC.out]
      have hg2 : Gr w2 w9 := (Gr.refl _).drew.trans hg9
      replace hg := hg.trans hg2
      replace d1 := cell_gr d1 hg2
      replace d2 := cell_gr d2 hg2
      replace d3 := cell_gr d3 hg2
      replace l1 := cell_gr l1 hg2
      have hown9 := own_gr3 hown hg2
      have t1 := cell_gr (HC.out C hCn) hg
      obtain ⟨bv, hbv⟩ : ∃ bv, bv = f C := ⟨_, rfl⟩
      rw [← hbv] at t1
      have HBV := hide hbv
      clear hbv hown hg2 hg9 hd9 hS
      generalize w9 = w3 at *
      by_cases kb : bv = 255
      · have eb : (bv == 255) = true := by simp [kb]
        clear kb
        go_wp2
        go_roundw
        case rel => exact ⟨s + 1, k, c1', a1, M, hsn, by omega, by go_num, rfl, HM, hown9, hg⟩
        case measure => simp [intOf]; omega
      · have eb : (bv == 255) = false := by simp [kb]
        have HFC : Hid (f C ≠ 255) := hide (by rw [← HBV.out]; exact kb)
        clear kb
        go_wp2_with fail
        refine (within_any _ 0 900 _ (by omega) (by omega) (by omega)).mono ?_
        rintro e w4 ⟨rfl, hd4⟩
        generalize hKe : withinF _ 0 900 = K
        have HKB : Hid (0 ≤ K ∧ K ≤ 900) := hide (by rw [← hKe]; exact within_bd _ _ _ (by omega))
        clear hKe
        have hg4 := hd4.gr
        replace hg := hg.trans hg4
        replace d1 := cell_gr d1 hg4
        replace d2 := cell_gr d2 hg4
        replace l1 := cell_gr l1 hg4
        replace hown9 := own_gr3 hown9 hg4
        clear hd4 hg4 t1 d3 eb hwr
        have hrow := tri_alloc w4 (.int .i64 (C : Int)) (.int .i64 4) (.int .i64 K) 50
        obtain ⟨u1, hu1⟩ : ∃ u1, u1 = w4.alloc (.cells #[.int .i64 (C : Int), .int .i64 4, .int .i64 K] 50) := ⟨_, rfl⟩
        rw [← hu1] at hrow
        have hgu : Gr w4 u1 := hu1 ▸ (Gr.refl w4).alloc _
        go_upto_region 8 with fail
        rw [← hu1]
        clear hu1
        obtain ⟨BX, hBX⟩ : ∃ BX, BX = w4.heap.size := ⟨_, rfl⟩
        rw [← hBX] at hrow ⊢
        have HBX := hide hBX
        clear hBX
        have l2 := cell_gr l1 hgu
        have e1 := cell_gr d1 hgu
        have e2 := cell_gr d2 hgu
        go_wp2_with fail
        refine (within_any _ 0 4 _ (by omega) (by omega) (by omega)).mono ?_
        rintro e u2 ⟨rfl, hd5⟩
        generalize hSe : withinF _ 0 4 = S1
        have HSB : Hid (0 ≤ S1 ∧ S1 ≤ 4) := hide (by rw [← hSe]; exact within_bd _ _ _ (by omega))
        clear hSe
        replace l2 := cell_gr l2 hd5.gr
        replace e1 := cell_gr e1 hd5.gr
        replace e2 := cell_gr e2 hd5.gr
        replace hrow := row_gr hrow hd5.gr
        replace hgu := hgu.trans hd5.gr
        clear hd5
        go_wp2_with fail
        refine (rstep_any W H (C : Int) S1 _).mono ?_
        rintro e u3 ⟨rfl, hd6⟩
        generalize hSt : stepF W H (C : Int) S1 = st
        have HST := hide hSt
        clear hSt
        replace l2 := cell_gr l2 hd6.gr
        replace hrow := row_gr hrow hd6.gr
        replace hgu := hgu.trans hd6.gr
        clear hd6 e1 e2
        go_upto_if 52 with fail
        go_cut [] from 53 to 70 (fun u => ∃ S : Int, Hid ((0 ≤ S ∧ S ≤ 4) ∧ (S = 4 ∨ stepF W H (C : Int) S < 0)) ∧ u.rowIs BX 50 3 (tri (.int .i64 (C : Int)) (.int .i64 S) (.int .i64 K)) ∧ Gr w4 u)
        case first =>
          obtain ⟨⟨r1, r2, r3⟩, hfz⟩ := row3 hrow
          by_cases hst : st < 0
          · go_wp2_with fail
            go_meet
            exact ⟨S1, hide ⟨HSB.out, .inr (by rw [HST.out]; exact hst)⟩, (hrow.set 1 _).congr (tri_set1 _ _ _ _), hgu.set (by rw [HBX.out]; exact Nat.le_refl _) _⟩
          · go_wp2_with fail
            go_meet
            exact ⟨4, hide ⟨by omega, .inl rfl⟩, hrow, hgu⟩
        case rest =>
          obtain ⟨S2, HS2, hrow2, hgc⟩ := hcut
          clear hrow l2 hgu
          generalize wc = u4 at *
          have l3 := cell_gr l1 hgc
          go_upto_if 60 with fail
          obtain ⟨tm, htm⟩ : ∃ tm, tm = v.tmod 11 := ⟨_, rfl⟩
          rw [← htm]
          clear htm
          go_cut [] from 61 to 70 (fun u => ∃ K2 : Int, Hid (0 ≤ K2 ∧ K2 ≤ 1073741824) ∧ u.rowIs BX 50 3 (tri (.int .i64 (C : Int)) (.int .i64 S2) (.int .i64 K2)) ∧ Gr w4 u)
          case first =>
            obtain ⟨⟨r1, r2, r3⟩, hfz⟩ := row3 hrow2
            by_cases hq : tm = 0
            · subst hq
              go_wp2_with fail
              refine (within_any _ 0 1073741824 _ (by omega) (by omega) (by omega)).mono ?_
              rintro e u5 ⟨rfl, hd6⟩
              generalize hKe : withinF _ 0 1073741824 = K3
              have HK3 : Hid (0 ≤ K3 ∧ K3 ≤ 1073741824) := hide (by rw [← hKe]; exact within_bd _ _ _ (by omega))
              clear hKe
              have hrow3 := row_gr hrow2 hd6.gr
              have hg6 := hgc.trans hd6.gr
              clear r1 r2 r3 hfz l3
              obtain ⟨⟨r1, r2, r3⟩, hfz⟩ := row3 hrow3
              go_wp2_with fail
              go_meet
              exact ⟨K3, HK3, (hrow3.set 2 _).congr (tri_set2 _ _ _ _), hg6.set (by rw [HBX.out]; exact Nat.le_refl _) _⟩
            · have hq' : (tm == 0) = false := by simpa using hq
              clear hq
              go_wp2_with fail
              go_meet
              exact ⟨K, hide (by have := HKB.out; omega), hrow2, hgc⟩
          case rest =>
            obtain ⟨K2, HK2, hrow3, hgd⟩ := hcut
            clear hrow2 hgc l3
            generalize wc = u5 at *
            obtain ⟨⟨r1, r2, r3⟩, -⟩ := row3 hrow3
            have hown5 := own_gr3 hown9 hgd
            have hgg := hg.trans hgd
            have hk1 : k + 1 ≤ 100 := by omega
            clear hrow3 hown9
            go_wp2_with (at_builtin; refine wpList_seeds rfl (.tmp 67) (.tmp 69) rfl w1.heap.size _ k (flatS M) rfl (hown5.alloc _) _ 1 1 [((C : Int), S2, K2)] rfl (seeds_one _ ((C : Int), S2, K2)) (by omega) (N := k + 1) rfl (Nat.le_trans hgg.size (by simp)) ?_; intro a7 c7 w7 hown7 hgrow7)
            go_roundw
            case rel => exact ⟨s + 1, k + 1, c7, a7, M ++ [((C : Int), S2, K2)], hsn, by omega, by go_num, rfl, hide ⟨by rw [List.length_append, HM.out.1]; rfl, fun x hx => by
              rcases List.mem_append.1 hx with hx | hx
              · exact HM.out.2 x hx
              · obtain rfl := List.mem_singleton.1 hx
                exact ⟨C, rfl, hCn, HFC.out, HK2.out, HS2.out.1, HS2.out.2⟩⟩, by rw [flatS_app]; exact hown7, (hgg.alloc _).grown hgrow7 (fun b e => (hown5.lt b e).1)⟩
            case measure => simp [intOf]; omega
    · have : s = m := by omega
      subst this
      go_wp2
      go_ret
      exact ⟨⟨_, _, k, M, rfl, hk, HM, by rw [hB0]; exact own_base hown hB01⟩, (show Gr w w1 from by assumption).trans hg⟩

theorem FarS.sli {w : World} {g c n : Nat} {F : Nat → Int} (h : FarS w g c n F) : SlI w (some ⟨g, 0, none⟩) n F := by
  obtain ⟨c', a', e, h3⟩ := SlI.of_own (h.own (Nat.zero_le _))
  cases e
  exact h3.2.2
def f9 : Nat → Int := fun i => if i = 0 then 5 else if i = 1 then 2 else 9
def d9 : Nat → Int := fun i => if i = 0 then 11 else if i = 1 then 9 else 0
theorem told_edge : ∀ (c : Fin 3) (s : Fin 4) (m : Fin 3), nearF 3 1 3 f9 (c.val : Int) (s.val : Int) = (m.val : Int) → d9 c.val ≤ d9 m.val + f9 m.val := by decide
theorem told_may : mayS 3 1 3 f9 [((2, 4, 0) : Sd)] = true := by decide
theorem f9_byte : ∀ i, i < 3 → 0 ≤ f9 i ∧ f9 i ≤ 255 := by
  intro i hi
  rcases (by omega : i = 0 ∨ i = 1 ∨ i = 2) with rfl | rfl | rfl <;> decide
theorem told_sprd : Sprd (nearF 3 1 3 f9) f9 3 [((2, 4, 0) : Sd)] d9 := by
  obtain ⟨hm, hs⟩ := sds_of f9_byte told_may
  have t2 : Told (nearF 3 1 3 f9) f9 3 [((2, 4, 0) : Sd)] 2 0 := .seed 2 (2, 4, 0) (.head _) rfl
  have t1 : Told (nearF 3 1 3 f9) f9 3 [((2, 4, 0) : Sd)] 1 9 := .step 1 2 1 0 t2 (by decide) (by decide) (by decide) (by decide) (by decide) (by decide) (by decide)
  have t0 : Told (nearF 3 1 3 f9) f9 3 [((2, 4, 0) : Sd)] 0 11 := .step 0 1 1 9 t1 (by decide) (by decide) (by decide) (by decide) (by decide) (by decide) (by decide)
  refine Sprd.of (gph_of hm f9_byte) (fun c hc => ?_) (fun c hc _ => ?_) (fun x hx c e => ?_) (fun c m s a1 a2 a3 a4 a5 _ _ _ => ?_)
  · rcases (by omega : c = 0 ∨ c = 1 ∨ c = 2) with rfl | rfl | rfl <;> decide
  · rcases (by omega : c = 0 ∨ c = 1 ∨ c = 2) with rfl | rfl | rfl
    · exact t0
    · exact t1
    · exact t2
  · obtain rfl := List.mem_singleton.1 hx
    simp only at e
    obtain rfl : c = 2 := by omega
    decide
  · have h := told_edge ⟨c, a1⟩ ⟨s.toNat, by omega⟩ ⟨m, a2⟩
    simp only at h
    exact h (by rw [show ((s.toNat : Nat) : Int) = s by omega]; exact a5)
theorem three_ints (w : World) (x y z : Int) (F : Nat → Int) (h0 : F 0 = x) (h1 : F 1 = y) (h2 : F 2 = z) : SlI (w.alloc (.cells #[.int .i64 x, .int .i64 y, .int .i64 z] 3)) (some ⟨w.heap.size, 0, none⟩) 3 F := by
  have e : (w.alloc (.cells #[.int .i64 x, .int .i64 y, .int .i64 z] 3)).ownsRow w.heap.size 3 1 (.slice (some ⟨w.heap.size, 0, none⟩) 3 3) 3 (cel .i64 3 F) :=
    ⟨rfl, .inr ⟨_, 3, _, rfl, Nat.le_refl _, Go.Deep.blk_alloc_new _ _, Nat.le_refl _, by unfold maxLen; omega, rfl, by simp [cel, List.range, List.range.loop, h0, h1, h2]⟩⟩
  obtain ⟨c', a', e', h3⟩ := SlI.of_own e
  cases e'
  exact h3.2.2
theorem three_bytes (w : World) : Sl (w.alloc (.cells #[.int .u8 5, .int .u8 2, .int .u8 9] 5)) (some ⟨w.heap.size, 0, none⟩) 3 f9 := by
  have e : (w.alloc (.cells #[.int .u8 5, .int .u8 2, .int .u8 9] 5)).ownsRow w.heap.size 5 1 (.slice (some ⟨w.heap.size, 0, none⟩) 3 3) 3 (cel .u8 3 f9) :=
    ⟨rfl, .inr ⟨_, 3, _, rfl, Nat.le_refl _, Go.Deep.blk_alloc_new _ _, Nat.le_refl _, by unfold maxLen; omega, rfl, by simp [cel, List.range, List.range.loop, f9]⟩⟩
  obtain ⟨c', a', e', h3⟩ := Sl.of_own e f9_byte
  cases e'
  exact h3.2.2

theorem IsRow.room {k : IntKind} {w : World} {a : Option Addr} {len cap : Nat} {zs : List Int} (h : IsRow k w a len cap zs) : len ≤ cap ∧ cap ≤ maxLen := by
  rcases h with ⟨rfl, rfl, rfl, rfl⟩ | ⟨x, rfl, hl, hm, hz, hc, hw⟩
  · exact ⟨Nat.le_refl _, Nat.zero_le _⟩
  · exact ⟨hl, hm⟩
theorem plain_own {w : World} {base n c k : Nat} {e : TypeId} {a : Option Addr} {xs : List Value} (h : w.ownsRow base e k (.slice a n c) n xs) : a = none ∨ ∃ b o, a = some ⟨b, o, none⟩ := by
  rcases h.2 with ⟨e, _⟩ | ⟨g, cap, cur, e, _⟩
  · cases e; exact .inl rfl
  · cases e; exact .inr ⟨g, 0, rfl⟩
theorem sls_own {w : World} {base n c : Nat} {a : Option Addr} {L : List Sd} (h : w.ownsRow base 50 3 (.slice a n c) n (flatS L)) (hl : L.length = n) : SlS w a n c L := by
  obtain ⟨a', c', e, h'⟩ := SlS.of_own h hl
  cases e
  exact h'
end Go.Proofs.Ytlnbolaaaahoaaa
