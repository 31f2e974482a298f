/- MeshWays: who leads into a node can be led back from it, by the same ways turned about. No condition. -/
import Derived.Test.YtgbadbkipaccgaaGreatMBuilt14
namespace Go.Proofs.YtgbadbkipaccgaaGreat
open Go.RowKit
set_option maxRecDepth 20000

theorem PlS.form {w : World} {base : Nat} {e : TypeId} {v : Value} {L : List (Int × Int)} (h : w.ownsRow base e 2 v L.length (flatP L)) : ∃ a c, v = .slice a L.length c ∧ PlS w a L.length c L := PlS.of_own h
theorem pair_apart {L : List (Int × Int)} (h : L.Pairwise fun x y => x.1 ≠ y.1) {i t : Nat} (ht : t < i) (hi : i < L.length) : (elP L t).1 ≠ (elP L i).1 := by
  rw [List.pairwise_iff_getElem] at h
  have := h t i (by omega) hi ht
  have e1 := elP_get? (L := L) (i := t) (by omega)
  have e2 := elP_get? hi
  rw [List.getElem?_eq_getElem (by omega), Option.some.injEq] at e1
  rw [List.getElem?_eq_getElem hi, Option.some.injEq] at e2
  rw [← e1, ← e2]
  exact this
theorem elP_of {L : List (Int × Int)} {x : Int × Int} (h : x ∈ L) : ∃ j, j < L.length ∧ elP L j = x := by
  obtain ⟨j, hj, e⟩ := List.getElem_of_mem h
  refine ⟨j, hj, ?_⟩
  have e1 := elP_get? hj
  rw [List.getElem?_eq_getElem hj, Option.some.injEq] at e1
  rw [← e1, e]

set_option maxHeartbeats 4000000 in
theorem meshWays_any (x y : Int) (a : Option Addr) (n cap : Nat) (f : Nat → Int) (ce : Int) (w : World) (h : Sl w a n f) (hn : n ≤ maxLen) :
    Calls Tryz.prog 6 #[.int .i64 x, .int .i64 y, .slice a n cap, .int .i64 ce] w fun e w' => e = .returned (.bool true) ∧ Gr w w' := by
  go_enter Tryz.func6, Tryz.ntmps6
  go_wp2_with fail
  refine (built_any x y a n cap f w h hn).mono ?_
  rintro e w1 ⟨W, H, N, gm, cm, F, p, q, gp, c, v, B, cc, rfl, hb⟩
  have hga : Gr w1 (w1.alloc (.cells #[.int .i64 W, .int .i64 H, .slice (some ⟨gm, 0, none⟩) N cm] 24)) := (Gr.refl w1).alloc _
  have hBm := tri_alloc w1 (.int .i64 W) (.int .i64 H) (.slice (some ⟨gm, 0, none⟩) N cm) 24
  obtain ⟨hsl, hfar, hcap, hmay, hbig, hduo⟩ := hb
  replace hsl := hsl.gr hga
  have hD := hduo.more hga
  have hfB : ∀ b, (b = p ∨ b = q) → b ≠ w1.heap.size := fun b e => by have := hduo.ms.apart; omega
  obtain ⟨hmb, hNm, -⟩ := (mayM_iff _ _ _ _).1 hmay
  have HFA := hide hfar
  have HMB := hide hmb
  have HNM := hide hNm
  have HLB := hide hfB
  clear hduo hfar hmay h hn hNm hmb hfB hcap
  go_wp2_with fail
  generalize (w1.alloc (.cells #[.int .i64 W, .int .i64 H, .slice (some ⟨gm, 0, none⟩) N cm] 24)) = u1 at *
  obtain ⟨B0, hB0⟩ : ∃ B0, w1.heap.size = B0 := ⟨_, rfl⟩
  rw [hB0] at hBm HLB ⊢
  clear hga hB0
  have HD1 := hide hD
  have HSL1 := hide hsl
  have HBM1 := hide hBm
  clear hD hsl hBm
  go_wp2_with fail
  refine (duo_rebuild HD1.out (by omega)).mono ?_
  rintro e w2 ⟨rfl, hD2, hk2⟩
  have hsl2 := hk2.sl HSL1.out (fun e => HFA.out gm (by omega) rfl)
  have hbx2 := hk2.row HBM1.out (b := B0) (fun e => HLB.out B0 e rfl)
  generalize (dirL (fun _ => 0) (fun _ => 1) (cntS W H)).length = dn at *
  obtain ⟨c1, c2, c3, -, -, -⟩ := row_cells hbx2
  have HD2 := hide hD2
  have HSL2 := hide hsl2
  have HBM2 := hide hbx2
  have hwN : IntKind.i64.wrap ((N : Int) - 1) = (N : Int) - 1 := wrapI (by omega)
  have hb1 := within_bd ce 0 ((N : Int) - 1) (by omega)
  obtain ⟨b, hbe⟩ : ∃ b : Nat, withinF ce 0 ((N : Int) - 1) = b := ⟨(withinF ce 0 ((N : Int) - 1)).toNat, by omega⟩
  have HW0 : Hid (∀ u, Calls Tryz.prog 10 #[.int .i64 ce, .int .i64 0, .int .i64 ((N : Int) - 1)] u fun e w' => e = .returned (.int .i64 (b : Int)) ∧ Dr u w') := hide fun u => by
    rw [← hbe]
    exact within_any _ _ _ u (by omega) (by omega) (by omega)
  have hbN : b < N := by omega
  clear hD2 hsl2 hbx2 hk2 HD1 HSL1 HBM1 hb1 hbe
  go_wp2_with fail
  refine (HW0.out _).mono ?_
  rintro e w4 ⟨rfl, hd4⟩
  have HD4 := hide (HD2.out.more hd4.gr)
  have HSL4 := hide (HSL2.out.gr hd4.gr)
  have HBM4 := hide (row_gr HBM2.out hd4.gr)
  clear HD2 HSL2 HBM2 hd4 HW0 hwN c1 c2 c3
  go_wp2_with fail
  refine (minto_any HD4.out.ms HD4.out.gd (b : Int)).mono ?_
  rintro e w5 ⟨⟨v5, rfl, ho5⟩, hg5⟩
  have hok : ∀ z, z ∈ intoL W H N F F (b : Int) → ∃ a' : Nat, z.1 = (a' : Int) ∧ a' < N ∧ a' ≠ b ∧ F a' ≠ 255 ∧ F b ≤ z.2 ∧ z.2 < 1099511627776 ∧ ∃ y : Int, ((b : Int), y) ∈ intoL W H N F F a' ∧ y + F b = z.2 + F a' := fun z hz => by
    obtain ⟨a', m, e1, e2, e3, e4, e5, e6, e7, e8, y, e9, e10⟩ := into_ok HMB.out HNM.out HD4.out.ms.byte HD4.out.ms.good hz
    obtain rfl : b = m := by omega
    exact ⟨a', e1, e3, e5, e6, e7, e8, y, e9, e10⟩
  have hap := into_apart (N := N) (S := F) (f := F) HMB.out HNM.out (b : Int)
  obtain ⟨L, hL⟩ : ∃ L, intoL W H N F F (b : Int) = L := ⟨_, rfl⟩
  rw [hL] at ho5 hok hap
  obtain ⟨aL, cL, rfl, hpl⟩ := PlS.form ho5
  obtain ⟨nn, hnn⟩ : ∃ nn, L.length = nn := ⟨_, rfl⟩
  have hnb : nn ≤ maxLen := by have := hpl.2.1; have := hpl.2.2.1; omega
  unfold maxLen at hnb
  rw [hnn] at hpl ⊢
  have HOK := hide hok
  have HAP := hide hap
  have HNN := hide hnn
  have HPL := hide hpl
  have HD5 := hide (HD4.out.more hg5)
  have HSL5 := hide (HSL4.out.gr hg5)
  have HBM5 := hide (row_gr HBM4.out hg5)
  clear ho5 hok hap hL hnn hpl hg5 HD4 HSL4 HBM4
  go_wp2_with fail
  go_loopw [14] (fun iv u => ∃ i : Nat, i ≤ nn ∧ iv = .int .i64 i ∧ Gr w5 u) (fun iv _ => nn - (intOf iv).toNat)
  case atStart => exact ⟨0, by omega, rfl, Gr.refl _⟩
  case round =>
    obtain ⟨i, hi, rfl, hgr⟩ := hrel
    by_cases hlt : i < nn
    · have hi1 : (i : Int) < (nn : Int) := by omega
      have hi0 : 0 ≤ (i : Int) := by omega
      obtain ⟨lb, lo, rfl, hlb, hlc⟩ := HPL.out.at (by omega)
      have l1 := cell_gr (hlc i hlt).1 hgr
      have l2 := cell_gr (hlc i hlt).2 hgr
      obtain ⟨m, e1, e2, e3, e4, e5, e6, yy, e7, e8⟩ := HOK.out _ (elP_mem (L := L) (i := i) (by rw [HNN.out]; exact hlt))
      rw [e1] at l1
      obtain ⟨xx, hxx⟩ : ∃ xx, (elP L i).2 = xx := ⟨_, rfl⟩
      rw [hxx] at l2 e5 e6 e8
      obtain ⟨r1, r2, r3, -, -, -⟩ := row_cells (row_gr HBM5.out hgr)
      have hcl : ∀ k, k < N → wr.cell? ⟨gm, k, none⟩ = some (.int .u8 (F k)) := fun k hk => by
        obtain ⟨b', o', ee, hb', hc'⟩ := (HSL5.out.gr hgr).at (by omega)
        cases ee
        have := hc' k hk
        rwa [Nat.zero_add] at this
      have fb1 := hcl b hbN
      have fa1 := hcl m e2
      have hB := HSL5.out.byte b hbN
      have hA := HSL5.out.byte m e2
      obtain ⟨fb, hfb⟩ : ∃ fb, F b = fb := ⟨_, rfl⟩
      obtain ⟨fa, hfa⟩ : ∃ fa, F m = fa := ⟨_, rfl⟩
      rw [hfb] at fb1 hB e5 e8
      rw [hfa] at fa1 hA e4 e8
      have hwb : IntKind.i64.wrap fb = fb := wrapI (by omega)
      have hwa : IntKind.i64.wrap fa = fa := wrapI (by omega)
      have hbI : (b : Int) < (N : Int) := by omega
      have hb0 : 0 ≤ (b : Int) := by omega
      have hmI : (m : Int) < (N : Int) := by omega
      have hm0 : 0 ≤ (m : Int) := by omega
      have HE := hide (⟨e1, e3, e7, e8⟩ : (elP L i).1 = (m : Int) ∧ m ≠ b ∧ ((b : Int), yy) ∈ intoL W H N F F m ∧ yy + fb = xx + fa)
      have HGR := hide hgr
      clear hlc hcl e7 e8 e1 hxx hfb hfa hgr hlb
      go_wp2_with fail
      have q1 : decide ((m : Int) < 0) = false := by simp
      have q2 : decide ((N : Int) ≤ (m : Int)) = false := by simp; omega
      have q3 : ((m : Int) == (b : Int)) = false := by simp; omega
      have q4 : decide (xx < fb) = false := by simp; omega
      have q5 : decide (1099511627776 ≤ xx) = false := by simp; omega
      have q6 : (fa == 255) = false := by simp; omega
      go_quiet (fail)
      have hgq : Gr wr (wr.drewN nq) := (Gr.refl wr).drewN nq
      have HDq := hide (HD5.out.more (HGR.out.trans hgq))
      clear q1 q2 q3 q4 q5 q6
      go_wp2_with fail
      refine (minto_any HDq.out.ms HDq.out.gd (m : Int)).mono ?_
      rintro e w6 ⟨⟨v6, rfl, ho6⟩, hg6⟩
      have hok2 : ∀ z, z ∈ intoL W H N F F (m : Int) → 0 ≤ z.2 ∧ z.2 < 1099511627776 := fun z hz => by
        obtain ⟨a', m', e1, e2, e3, e4, e5, e6, e7, e8, -⟩ := into_ok HMB.out HNM.out HDq.out.ms.byte HDq.out.ms.good hz
        have := HDq.out.ms.byte m' e4
        omega
      obtain ⟨j0, hj0, ej0⟩ := elP_of HE.out.2.2.1
      obtain ⟨L2, hL2⟩ : ∃ L2, intoL W H N F F (m : Int) = L2 := ⟨_, rfl⟩
      rw [hL2] at ho6 hok2 hj0 ej0
      obtain ⟨a6, k6, rfl, hpl6⟩ := PlS.form ho6
      obtain ⟨n2, hn2⟩ : ∃ n2, L2.length = n2 := ⟨_, rfl⟩
      have hnb2 : n2 ≤ maxLen := by have := hpl6.2.1; have := hpl6.2.2.1; omega
      unfold maxLen at hnb2
      rw [hn2] at hpl6 hj0 ⊢
      have hg06 := hgq.trans hg6
      replace l1 := cell_gr l1 hg06
      replace l2 := cell_gr l2 hg06
      replace r3 := cell_gr r3 hg06
      replace fb1 := cell_gr fb1 hg06
      replace fa1 := cell_gr fa1 hg06
      have HN2 := hide hn2
      have HOK2 := hide hok2
      have HPL6 := hide hpl6
      have HG6 := hide (HGR.out.trans hg06)
      have hsum := HE.out.2.2.2
      have hne := HE.out.2.1
      have HSUM := hide hsum
      clear ho6 hok2 hL2 hn2 hpl6 hgq hg6 hg06 HDq hsum r1 r2
      go_wp2_with fail
      go_loopw [16, 18] (fun bv kv u => ∃ (k : Nat) (β : Bool), k ≤ n2 ∧ bv = .bool β ∧ kv = .int .i64 k ∧ (β = true ∨ ∃ j, k ≤ j ∧ j < n2 ∧ elP L2 j = ((b : Int), yy)) ∧ Gr w6 u) (fun _ kv _ => n2 - (intOf kv).toNat)
      case atStart => exact ⟨0, false, Nat.zero_le _, rfl, rfl, .inr ⟨j0, Nat.zero_le _, hj0, ej0⟩, Gr.refl _⟩
      case round =>
        clear hj0 ej0
        obtain ⟨k, β, hk, rfl, rfl, hβ, hgr7⟩ := hrel
        by_cases hkl : k < n2
        · have hkI : (k : Int) < (n2 : Int) := by omega
          have hk0 : 0 ≤ (k : Int) := by omega
          have hlt7 : i < nn := hlt
          obtain ⟨b6, o6, rfl, hb6, hc6⟩ := HPL6.out.at (by omega)
          have p1 := cell_gr (hc6 k hkl).1 hgr7
          have p2 := cell_gr (hc6 k hkl).2 hgr7
          have hz6 := HOK2.out _ (elP_mem (L := L2) (i := k) (by rw [HN2.out]; exact hkl))
          obtain ⟨t1, ht1⟩ : ∃ t1, (elP L2 k).1 = t1 := ⟨_, rfl⟩
          obtain ⟨t2, ht2⟩ : ∃ t2, (elP L2 k).2 = t2 := ⟨_, rfl⟩
          rw [ht1] at p1
          rw [ht2] at p2 hz6
          have HT := hide (⟨ht1, ht2⟩ : (elP L2 k).1 = t1 ∧ (elP L2 k).2 = t2)
          have HB := hide hβ
          have HG7 := hide hgr7
          replace l2 := cell_gr l2 hgr7
          replace r3 := cell_gr r3 hgr7
          replace fb1 := cell_gr fb1 hgr7
          replace fa1 := cell_gr fa1 hgr7
          have hw1 : IntKind.i64.wrap (t2 + fb) = t2 + fb := wrapI (by omega)
          have hw2 : IntKind.i64.wrap (xx + fa) = xx + fa := wrapI (by omega)
          clear hc6 ht1 ht2 hβ hgr7 hb6
          cases β
          · by_cases ek : t1 = (b : Int)
            · have q1 : (t1 == (b : Int)) = true := by simp [ek]
              have HEK := hide ek
              clear ek
              by_cases es : t2 + fb = xx + fa
              · have q2 : (t2 + fb == xx + fa) = true := by simp [es]
                clear es
                go_wp2_with fail
                go_quiet (fail)
                go_wp2_with fail
                exact ⟨⟨k + 1, true, by omega, rfl, by go_num, .inl rfl, HG7.out.trans ((Gr.refl _).drewN nq)⟩, by simp [intOf]; omega⟩
              · have q2 : (t2 + fb == xx + fa) = false := by simp [es]
                have HES := hide es
                clear es
                go_wp2_with fail
                go_quiet (fail)
                go_wp2_with fail
                refine ⟨⟨k + 1, false, by omega, rfl, by go_num, .inr ?_, HG7.out.trans ((Gr.refl _).drewN nq)⟩, by simp [intOf]; omega⟩
                rcases HB.out with hh | ⟨j, hj1, hj2, hj3⟩
                · cases hh
                · refine ⟨j, ?_, hj2, hj3⟩
                  rcases Nat.lt_or_eq_of_le hj1 with hq | rfl
                  · omega
                  · have h2 := HT.out.2
                    rw [hj3] at h2
                    have h3 := HES.out
                    have h4 := HSUM.out
                    simp only at h2
                    omega
            · have q1 : (t1 == (b : Int)) = false := by simp [ek]
              have HEK := hide ek
              clear ek
              go_wp2_with fail
              go_quiet (fail)
              go_wp2_with fail
              refine ⟨⟨k + 1, false, by omega, rfl, by go_num, .inr ?_, HG7.out.trans ((Gr.refl _).drewN nq)⟩, by simp [intOf]; omega⟩
              rcases HB.out with hh | ⟨j, hj1, hj2, hj3⟩
              · cases hh
              · refine ⟨j, ?_, hj2, hj3⟩
                rcases Nat.lt_or_eq_of_le hj1 with hq | rfl
                · omega
                · have h2 := HT.out.1
                  rw [hj3] at h2
                  exact absurd h2.symm HEK.out
          · go_wp2_with fail
            go_quiet (fail)
            go_wp2_with fail
            exact ⟨⟨k + 1, true, by omega, rfl, by go_num, .inl rfl, HG7.out.trans ((Gr.refl _).drewN nq)⟩, by simp [intOf]; omega⟩
        · have hkI : ¬ (k : Int) < (n2 : Int) := by omega
          obtain rfl : β = true := by
            rcases hβ with hh | ⟨j, hj1, hj2, -⟩
            · exact hh
            · omega
          have HG7 := hide (HG6.out.trans hgr7)
          generalize wr = w7 at *
          clear hβ hgr7 l1 l2 r3 fb1 fa1
          go_wp2_with fail
          go_loopw [19] (fun tv u => ∃ t : Nat, t ≤ i ∧ tv = .int .i64 t ∧ Gr w7 u) (fun tv _ => i - (intOf tv).toNat)
          case atStart => exact ⟨0, Nat.zero_le _, rfl, Gr.refl _⟩
          case round =>
            obtain ⟨t, ht, rfl, hgr8⟩ := hrel
            by_cases htl : t < i
            · have htI : (t : Int) < (i : Int) := by omega
              have htn : (t : Int) < (nn : Int) := by omega
              have ht0 : 0 ≤ (t : Int) := by omega
              obtain ⟨lb', lo', ee, hlb, hlc⟩ := HPL.out.at (by omega)
              simp only [Option.some.injEq, Addr.mk.injEq, and_true] at ee
              obtain ⟨rfl, rfl⟩ := ee
              have l1 := cell_gr (hlc t (by omega)).1 (HG7.out.trans hgr8)
              have hne2 := pair_apart HAP.out htl (by rw [HNN.out]; exact hlt)
              rw [HE.out.1] at hne2
              have q1 : ((elP L t).1 == (m : Int)) = false := by simp [hne2]
              generalize (elP L t).1 = tt at *
              have HG8 := hide hgr8
              clear hlc hgr8 hlb
              go_wp2_with fail
              exact ⟨⟨t + 1, by omega, by go_num, HG8.out⟩, by simp [intOf]; omega⟩
            · have htI : ¬ (t : Int) < (i : Int) := by omega
              have HG8 := hide (HG7.out.trans hgr8)
              clear hgr8
              go_wp2_with fail
              exact ⟨⟨i + 1, by omega, by go_num, HG8.out⟩, by simp [intOf]; omega⟩
    · have hi1 : ¬ (i : Int) < (nn : Int) := by omega
      have HGR := hide hgr
      clear hgr
      go_wp2_with (go_at_call 22; refine (told14_any _).mono ?_; rintro e w7 ⟨rfl, hg7⟩)
      go_ret
      exact ⟨rfl, (HD5.out.more (HGR.out.trans hg7)).gr⟩
end Go.Proofs.YtgbadbkipaccgaaGreat
