/- sweep.reach: the cells beside a settled one. No condition. -/
import Derived.Test.YtigoehoaplndiaaXFar9
import Derived.Test.YtigoehoaplndiaaTMates
import Derived.Deep.CutRange
namespace Go.Proofs.Ytigoehoaplndiaa
open Go.RowKit
set_option maxRecDepth 20000

theorem back9 {s : Int} (a : 0 ≤ s) (b : s ≤ 3) : 0 ≤ backF s ∧ backF s ≤ 3 := by
  rcases (by omega : s = 0 ∨ s = 1 ∨ s = 2 ∨ s = 3) with rfl | rfl | rfl | rfl <;> decide
/-- the cells of a tile that may be -/
theorem gph_of {W H : Int} {n : Nat} {f : Nat → Int} (hm : mayTB W H n f = true) (hb : ∀ i, i < n → 0 ≤ f i ∧ f i ≤ 255) : Gph (nearF W H n f) f n := by
  obtain ⟨_, _, hn, h0⟩ := (mayTB_iff W H n f).1 hm
  refine ⟨fun c m s s0 s3 e hc => ?_, fun c hc => ?_⟩
  · have hl : isLocB W H n f (c : Int) = true := (isLocB_iff _ _ _ _ _).2 ⟨hm, by omega, by omega⟩
    have hcell := loc_cell hl
    have e1 : nearF W H n f c s = stepF W H c s := by simp [nearF, hl]
    rw [e1] at e
    have e0 : 0 ≤ stepF W H c s := by omega
    have hcell2 := step_cell hcell s0 (by omega) e0
    obtain ⟨_, q1, q2⟩ := (isCellB_iff _ _ _).1 hcell2
    have hmn : m < n := by omega
    have hl2 : isLocB W H n f (m : Int) = true := (isLocB_iff _ _ _ _ _).2 ⟨hm, by omega, by omega⟩
    have hb2 := back9 s0 s3
    refine ⟨hmn, backF s, hb2.1, hb2.2, ?_⟩
    have e2 : nearF W H n f m (backF s) = stepF W H m (backF s) := by simp [nearF, hl2]
    rw [e2, ← e]
    exact step_back hcell s0 s3 e0
  · have h1 := hb c hc
    have h2 := h0 c hc
    omega
theorem near_cases (W H : Int) (n : Nat) (f : Nat → Int) (l s : Int) : nearF W H n f l s < 0 ∨ ∃ b : Nat, nearF W H n f l s = (b : Int) := by
  by_cases h : nearF W H n f l s < 0
  · exact .inl h
  · exact .inr ⟨(nearF W H n f l s).toNat, by omega⟩

set_option maxHeartbeats 4000000 in
theorem reach_any {W H : Int} {al : Option Addr} {n cap : Nat} {f : Nat → Int} {w0 u : World} {X : Nat → Prop} {g cf : Nat} {F : Nat → Int} {p : Nat} {a : Int} {Q : List (Int × Int)} {R L : List Sd} {K : Int} {c : Nat}
    (h : Sl w0 al n f) (hm : mayTB W H n f = true) (hD : Dj w0 X u g cf n F p a Q) (hk : Dk (nearF W H n f) f n L K F a Q R c 0) (hF : F c = a) (hc : c < n) (hco : f c ≠ 255) (ha : a < 1000000000000) (hka : a + 254 ≤ K + 254 * (cntF F n : Int)) (hQ : Q.length ≤ 900000) :
    Calls Try.prog 39 #[.agg #[.int .i64 W, .int .i64 H, .slice al n cap], .slice (some ⟨g, 0, none⟩) n cf, .pointer (some ⟨p, 0, none⟩), .int .i64 c] u fun e u' => e = .returned (.tuple #[]) ∧ ∃ Q', Dj w0 X u' g cf n F p a Q' ∧ Dk (nearF W H n f) f n L K F a Q' R c 4 ∧ Q'.length ≤ Q.length + 4 := by
  have hgph := gph_of hm h.byte
  obtain ⟨hn1, hn2, _, _⟩ := mayTB_n hm
  obtain ⟨b, o, rfl, hb, hcell⟩ := h.at (by omega)
  have hlo := hD.lo
  have hD0 := hD.own
  have hcn : (c : Int) < (n : Int) := by omega
  have hfc := hgph.cost c hc
  obtain ⟨c1, c2, c3⟩ := tri_at u W H (.slice (some ⟨b, o, none⟩) n cap)
  have hg1 : Gr u (u.alloc (.cells #[.int .i64 W, .int .i64 H, .slice (some ⟨b, o, none⟩) n cap] 24)) := (Gr.refl u).alloc _
  have hD1 := hD.more hg1 (Nat.le_refl u.heap.size) (World.block_lt_of_cell? _ _ c1)
  obtain ⟨w1, hw1⟩ : ∃ w1, w1 = (u.alloc (.cells #[.int .i64 W, .int .i64 H, .slice (some ⟨b, o, none⟩) n cap] 24)) := ⟨_, rfl⟩
  rw [← hw1] at c1 c2 c3 hg1 hD1
  have x1 := hD1.far.cell hc
  rw [hF] at x1
  have x2 := cell_gr (hcell c hc) hD1.gr
  obtain ⟨v, hv⟩ : ∃ v, v = f c := ⟨_, rfl⟩
  rw [← hv] at x2
  have hsum : IntKind.i64.wrap (a + v) = a + v := wrapI (by omega)
  have hwv : IntKind.i64.wrap v = v := wrapI (by omega)
  have HF := hide hF
  have HV := hide hv
  clear hF hv
  go_enter Try.func39, Try.ntmps39
  go_upto_region 1 with fail
  rw [← hw1]
  clear hw1
  generalize u.heap.size = B0 at *
  go_quiet (fail)
  have gq : Gr w1 (w1.drewN nq) := (Gr.refl w1).drewN nq
  replace c1 := cell_gr c1 gq
  replace c2 := cell_gr c2 gq
  replace c3 := cell_gr c3 gq
  replace hD1 := hD1.grw gq
  clear x1 x2 hg1 gq hD hwv
  generalize (w1.drewN nq) = w2 at *
  go_wp2_with fail
  go_loopw [9] (fun s u' => ∃ (j : Nat) (Q' : List (Int × Int)), j ≤ 4 ∧ s = .int .i64 j ∧ Dj w0 (fun b => X b ∨ b = B0) u' g cf n F p a Q' ∧ Dk (nearF W H n f) f n L K F a Q' R c j ∧ Hid (Q'.length ≤ Q.length + j) ∧ u'.cell? ⟨B0, 0, none⟩ = some (.int .i64 W) ∧ u'.cell? ⟨B0, 1, none⟩ = some (.int .i64 H) ∧ u'.cell? ⟨B0, 2, none⟩ = some (.slice (some ⟨b, o, none⟩) n cap)) (fun s _ => 4 - (intOf s).toNat)
  case atStart => exact ⟨0, Q, by omega, rfl, hD1, hk, hide (by omega), c1, c2, c3⟩
  case round =>
    obtain ⟨j, Q', hj, rfl, hD', hk', HQ', d1, d2, d3⟩ := hrel
    generalize wr = w3 at *
    clear c1 c2 c3
    by_cases hj3 : j < 4
    · have hj3' : (j : Int) ≤ 3 := by omega
      have hj0 : (0 : Int) ≤ (j : Int) := by omega
      have hsl := h.gr hD'.gr
      go_wp2_with fail
      refine (tnear_any W H _ n cap f c j w3 hsl).mono ?_
      rintro e w4 ⟨rfl, hg4⟩
      replace d1 := cell_gr d1 hg4
      replace d2 := cell_gr d2 hg4
      replace d3 := cell_gr d3 hg4
      replace hD' := hD'.grw hg4
      clear hsl hg4
      rcases near_cases W H n f c j with hz | ⟨q, hz⟩
      · have HS : Hid (Dk (nearF W H n f) f n L K F a Q' R c ((j : Int) + 1)) := hide (hk'.sideNo hgph hc HF.out (fun q _ e _ => by omega))
        obtain ⟨z, hz2⟩ : ∃ z, z = nearF W H n f c j := ⟨_, rfl⟩
        rw [← hz2] at hz ⊢
        clear hz2
        have hz' : ¬ (0 : Int) ≤ z := by omega
        go_wp2_with fail
        go_roundw
        case rel => exact ⟨j + 1, Q', by omega, by go_num, hD', by exact_mod_cast HS.out, hide (by have := HQ'.out; omega), d1, d2, d3⟩
        case measure => simp [intOf]; omega
      · obtain ⟨hqn, _⟩ := hgph.sym c q j hj0 hj3' hz hc
        have hq0 : (0 : Int) ≤ (q : Int) := by omega
        have hqn' : (q : Int) < (n : Int) := by omega
        have y1 := cell_gr (hcell q hqn) hD'.gr
        have y2 := hD'.far.cell hqn
        rw [hz]
        have HZ := hide hz
        clear hz
        obtain ⟨v1, hv1⟩ : ∃ v1, v1 = f q := ⟨_, rfl⟩
        obtain ⟨v2, hv2⟩ : ∃ v2, v2 = F q := ⟨_, rfl⟩
        rw [← hv1] at y1
        rw [← hv2] at y2
        by_cases e1 : v1 = 255
        · have HS : Hid (Dk (nearF W H n f) f n L K F a Q' R c ((j : Int) + 1)) := hide (hk'.sideNo hgph hc HF.out (fun b' _ e e' => by
            have := HZ.out
            obtain rfl : b' = q := by omega
            exact absurd (hv1.symm.trans e1) e'))
          clear hv1 hv2
          subst e1
          go_wp2_with fail
          go_roundw
          case rel => exact ⟨j + 1, Q', by omega, by go_num, hD', by exact_mod_cast HS.out, hide (by have := HQ'.out; omega), d1, d2, d3⟩
          case measure => simp [intOf]; omega
        · by_cases e2 : v2 = 1099511627776
          · have HS : Hid (Dk (nearF W H n f) f n L K F a (Q' ++ [(a + v, (q : Int))]) R c ((j : Int) + 1)) := hide (by
              rw [HV.out]
              exact hk'.sidePut hgph hc hco HF.out (by omega) hka hj0 hj3' HZ.out (by rw [← hv1]; exact e1))
            clear hv1 hv2
            subst e2
            have hv0 : 0 ≤ v ∧ v ≤ 254 := by
              have := HV.out
              omega
            go_wp2_with fail
            refine (dput hD' (a + v) q (by omega) (by omega) (by have := HQ'.out; omega) (by omega)).mono ?_
            rintro e w5 ⟨rfl, hD5, hk5⟩
            have nB : ¬ (w0.heap.size ≤ B0 ∧ ¬ (X B0 ∨ B0 = B0)) := fun k => k.2 (.inr rfl)
            replace d1 := hk5.cell d1 nB
            replace d2 := hk5.cell d2 nB
            replace d3 := hk5.cell d3 nB
            go_wp2_with fail
            go_roundw
            case rel => exact ⟨j + 1, _, by omega, by go_num, hD5, by exact_mod_cast HS.out, hide (by have := HQ'.out; simp only [List.length_append, List.length_singleton]; omega), d1, d2, d3⟩
            case measure => simp [intOf]; omega
          · have HS : Hid (Dk (nearF W H n f) f n L K F a Q' R c ((j : Int) + 1)) := hide (hk'.sideNo hgph hc HF.out (fun b' _ e _ => by
              have := HZ.out
              obtain rfl : b' = q := by omega
              rw [← hv2]
              exact e2))
            clear hv1 hv2
            have e3 : (v2 == 1099511627776) = false := by simpa using e2
            go_wp2_with fail
            go_roundw
            case rel => exact ⟨j + 1, Q', by omega, by go_num, hD', by exact_mod_cast HS.out, hide (by have := HQ'.out; omega), d1, d2, d3⟩
            case measure => simp [intOf]; omega
    · obtain rfl : j = 4 := by omega
      have hD6 := hD'.mono (Y := X) (fun b hb => .inl hb) hD0
      go_wp2_with fail
      go_end0
      exact ⟨rfl, Q', hD6, by exact_mod_cast hk', by have := HQ'.out; omega⟩
end Go.Proofs.Ytigoehoaplndiaa
