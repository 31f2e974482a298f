/- The law's some: open locals of a tile, rising, at most twelve. No condition. -/
import Derived.Test.YtjgpcjlpdgedoaaLNat
import Derived.Test.YtjgpcjlpdgedoaaCMath12
import Derived.Test.YtjgpcjlpdgedoaaBT
namespace Go.Proofs.Ytjgpcjlpdgedoaa
open Go.RowKit
set_option maxRecDepth 20000

/-- some open locals below i, rising -/
def someOk (f : Nat → Int) (i : Nat) (L : List Nat) : Prop := (∀ x, x ∈ L → x < i ∧ f x ≠ 255) ∧ L.Pairwise (· < ·)
theorem someOk.up {f : Nat → Int} {i : Nat} {L : List Nat} (h : someOk f i L) : someOk f (i + 1) L := ⟨fun x hx => by have := h.1 x hx; exact ⟨by omega, this.2⟩, h.2⟩
theorem someOk.mono {f : Nat → Int} {i j : Nat} {L : List Nat} (h : someOk f i L) (k : i ≤ j) : someOk f j L := ⟨fun x hx => by have := h.1 x hx; exact ⟨by omega, this.2⟩, h.2⟩
theorem someOk.add {f : Nat → Int} {i : Nat} {L : List Nat} (h : someOk f i L) (ho : f i ≠ 255) : someOk f (i + 1) (L ++ [i]) := by
  refine ⟨fun x hx => ?_, ?_⟩
  · rcases List.mem_append.1 hx with hx | hx
    · have := h.1 x hx
      exact ⟨by omega, this.2⟩
    · obtain rfl := List.mem_singleton.1 hx
      exact ⟨by omega, ho⟩
  · rw [List.pairwise_append]
    refine ⟨h.2, List.pairwise_singleton _ _, fun x hx y hy => ?_⟩
    obtain rfl := List.mem_singleton.1 hy
    exact (h.1 x hx).1
/-- by the index -/
def atN (L : List Nat) (i : Nat) : Int := ((L.getD i 0 : Nat) : Int)
theorem someOk.opn {f : Nat → Int} {n : Nat} {L : List Nat} (h : someOk f n L) : Opn f n (atN L) L.length := by
  have hm : ∀ i, i < L.length → L[i]? = some (L.getD i 0) := fun i hi => by simp [hi]
  refine ⟨fun i hi => ?_, fun i hi => ?_⟩
  · have := h.1 _ (List.mem_of_getElem? (hm i hi))
    unfold atN
    rw [Int.toNat_natCast]
    exact ⟨by omega, by omega, this.2⟩
  · have := List.pairwise_iff_getElem.1 h.2 i (i + 1) (by omega) hi (by omega)
    have e1 := hm i (by omega)
    have e2 := hm (i + 1) hi
    rw [List.getElem?_eq_getElem (by omega)] at e1
    rw [List.getElem?_eq_getElem hi] at e2
    simp only [Option.some.injEq] at e1 e2
    unfold atN
    omega

theorem IlS.slot' {w : World} {base : Nat} {a : Option Addr} {n c : Nat} {L : List Nat} (h : w.ownsRow base 3 1 (.slice a n c) n (flatN L)) (hn : L.length = n) : IlS w a n c L := by
  obtain ⟨a1, c1, e, h1⟩ := IlS.of_own h hn
  cases e
  exact h1

set_option maxHeartbeats 4000000 in
theorem some_any (W H : Int) (a : Option Addr) (n cap : Nat) (f : Nat → Int) (al : Option Addr) (m c : Nat) (z : Nat → Int) (w : World) (h : Sl w a n f) (hn : 1 ≤ n) (hn2 : n ≤ 1000) (g : SlI w al m z) :
    Calls Try.prog 11 #[.agg #[.int .i64 W, .int .i64 H, .slice a n cap], .slice al m c] w fun e w' => (∃ a' c' k L, e = .returned (.slice a' k c') ∧ k ≤ 12 ∧ Hid (L.length = k ∧ someOk f n L) ∧ IlS w' a' k c' L) ∧ Gr w w' := by
  obtain ⟨i0, hi, hz0, hz1, hz2⟩ := info_parts info_int
  obtain ⟨c1, c2, c3⟩ := tri_at w W H (.slice a n cap)
  have hg1 : Gr w (w.alloc (.cells #[.int .i64 W, .int .i64 H, .slice a n cap] 24)) := (Gr.refl w).alloc _
  go_enter Try.func11, Try.ntmps11
  go_wp2_with fail
  generalize hw1 : (w.alloc (.cells #[.int .i64 W, .int .i64 H, .slice a n cap] 24)) = w1 at *
  generalize hB0 : w.heap.size = B0 at *
  clear hw1 c1 c2
  have hsl := h.gr hg1
  have hl := g.gr hg1
  clear h g
  obtain ⟨b, ao, rfl, hb, hcell⟩ := hsl.at (by omega)
  have HC := hide hcell
  clear hcell hsl
  have hwr : IntKind.i64.wrap ((n : Int) - 1) = (n : Int) - 1 := wrapI (by omega)
  go_loopw [5, 6] (fun v i u => ∃ (s k c1 : Nat) (a1 : Option Addr) (L : List Nat), s ≤ n ∧ k ≤ s ∧ k ≤ 12 ∧ i = .int .i64 s ∧ v = .slice a1 k c1 ∧ Hid (L.length = k ∧ someOk f s L) ∧ u.ownsRow w1.heap.size 3 1 (.slice a1 k c1) k (flatN L) ∧ Gr w1 u) (fun _ i _ => n - (intOf i).toNat)
  case atStart => exact ⟨0, 0, 0, none, [], by omega, by omega, by omega, rfl, rfl, hide ⟨rfl, fun _ h => absurd h List.not_mem_nil, List.Pairwise.nil⟩, World.ownsRow_nil _ _ _ _, Gr.refl _⟩
  case round =>
    obtain ⟨s, k, c1', a1, L, hs, hk, hk12, rfl, rfl, HL, hown, hg⟩ := hrel
    generalize wr = w2 at *
    have d3 := cell_gr c3 hg
    by_cases hsn : s < n
    · have hsn2 : (s : Int) < (n : Int) := by omega
      by_cases hk1 : k < 12
      · have hk1i : (k : Int) < 12 := by omega
        go_wp2_with fail
        go_loopw [7, 8] (fun bv kv u => ∃ (q : Bool) (j : Nat), bv = .bool q ∧ kv = .int .i64 j ∧ j ≤ m ∧ j ≤ 30 ∧ Dr w2 u) (fun _ kv _ => 31 - (intOf kv).toNat)
        case atStart => exact ⟨false, 0, rfl, rfl, by omega, by omega, Dr.refl _⟩
        case round =>
          obtain ⟨q, j, rfl, rfl, hj, hj30, hd⟩ := hrel
          generalize wr = w3 at *
          have e3 := cell_gr d3 hd.gr
          by_cases hjm : j < m ∧ j < 30
          · obtain ⟨hjm, hj3⟩ := hjm
            have jm : (j : Int) < (m : Int) := by omega
            have j3 : (j : Int) < 30 := by omega
            cases q
            · obtain ⟨bl, ol, rfl, hbl, hcl⟩ := hl.at (by omega)
              have l1 := cell_gr (hcl j hjm) (hg.trans hd.gr)
              obtain ⟨v, hv⟩ : ∃ v, v = z j := ⟨_, rfl⟩
              rw [← hv] at l1
              have H2 : Hid (∀ u, Dr w3 u → Calls Try.prog 17 #[.int .i64 v, .int .i64 0, .int .i64 ((n : Int) - 1)] u fun e w' => e = .returned (.int .i64 (withinF v 0 ((n : Int) - 1))) ∧ Dr u w') := hide fun u _ => within_any _ _ _ _ (by omega) (by omega) (by omega)
              obtain ⟨x, hx⟩ : ∃ x, x = withinF v 0 ((n : Int) - 1) := ⟨_, rfl⟩
              rw [← hx] at H2
              have j0 : (0 : Int) ≤ (j : Int) := by omega
              clear hcl hv hx
              go_wp2_with fail
              go_quiet ((go_at_call 17; refine Dr.quiet (H2.out _ ⟨_, rfl⟩)))
              go_wp2_with fail
              go_roundw
              case rel => exact ⟨_, j + 1, rfl, by go_num, by omega, by omega, by repeat (first | exact Dr.refl _ | assumption | refine Dr.add ?_ | refine Dr.trans ?_ (by assumption))⟩
              case measure => simp [intOf]; omega
            · go_wp2_with fail
              go_quiet (fail)
              go_wp2_with fail
              go_roundw
              case rel => exact ⟨_, j + 1, rfl, by go_num, by omega, by omega, by repeat (first | exact Dr.refl _ | assumption | refine Dr.add ?_ | refine Dr.trans ?_ (by assumption))⟩
              case measure => simp [intOf]; omega
          · replace hg := hg.trans hd.gr
            replace hown := own_grI hown hd.gr
            have t1 := cell_gr (HC.out s hsn) hg
            obtain ⟨bv, hbv⟩ : ∃ bv, bv = f s := ⟨_, rfl⟩
            rw [← hbv] at t1
            have HBV := hide hbv
            clear hbv
            have s0 : (0 : Int) ≤ (s : Int) := by omega
            have s1 : (s : Int) < (n : Int) := hsn2
            have HO := hide hown
            have HG := hide hg
            clear hown hg hd d3
            by_cases jm2 : j < m
            all_goals (
              (first | (have j3 : ¬ (j : Int) < 30 := (by omega); have jm : (j : Int) < (m : Int) := (by omega)) | (have jm : ¬ (j : Int) < (m : Int) := (by omega)))
              clear hjm jm2
              go_upto_region 10 with fail
              cases q
              · go_wp2_with fail
                go_roundw
                case rel => exact ⟨s + 1, k, c1', a1, L, hsn, by omega, by omega, by go_num, rfl, hide ⟨HL.out.1, HL.out.2.up⟩, HO.out, HG.out⟩
                case measure => simp [intOf]; omega
              · by_cases kb : bv = 255
                · have eb : (bv != 255) = false := by simp [kb]
                  clear kb
                  go_wp2_with fail
                  go_roundw
                  case rel => exact ⟨s + 1, k, c1', a1, L, hsn, by omega, by omega, by go_num, rfl, hide ⟨HL.out.1, HL.out.2.up⟩, HO.out, HG.out⟩
                  case measure => simp [intOf]; omega
                · have eb : (bv != 255) = true := by simp [kb]
                  have HFC : Hid (f s ≠ 255) := hide (by rw [← HBV.out]; exact kb)
                  clear kb
                  go_wp2_with (at_builtin; refine wpList_append_own _ rfl _ _ 25 rfl w1.heap.size 3 i0 (.int .i64 0) 1 8 Try.underlying25 hi hz0 hz1 hz2 rfl (by decide) _ _ _ rfl (own_grI HO.out ((Gr.refl _).alloc _)) ⟨w3.heap.size, 0, none⟩ 1 1 [.int .i64 (s : Int)] rfl rfl (alloc_one _ _ _) (by simp [Value.oneCell']) (by unfold maxLen; omega) (by omega) (by have := HG.out.size; simp only [World.size_alloc]; omega) ?_; intro v' w4 hown' hgrow hnil)
                  obtain ⟨a7, c7, e7, -⟩ := IlS.of_own (L := L ++ [s]) (by rw [flatN_app]; exact hown') (by rw [List.length_append, HL.out.1]; rfl)
                  cases e7
                  go_roundw
                  case rel => exact ⟨s + 1, k + 1, c7, a7, L ++ [s], hsn, by omega, by omega, by go_num, rfl, hide ⟨by rw [List.length_append, HL.out.1]; rfl, HL.out.2.add HFC.out⟩, by rw [flatN_app]; exact hown', Gr.grown (HG.out.alloc _) hgrow (fun q e => (HO.out.lt q e).1)⟩
                  case measure => simp [intOf]; omega)
      · have : k = 12 := by omega
        subst this
        go_wp2_with fail
        go_ret
        exact ⟨⟨_, _, 12, L, rfl, by omega, hide ⟨HL.out.1, HL.out.2.mono (by omega)⟩, IlS.slot' hown HL.out.1⟩, hg1.trans hg⟩
    · have : s = n := by omega
      subst this
      go_wp2_with fail
      go_ret
      exact ⟨⟨_, _, k, L, rfl, by omega, HL, IlS.slot' hown HL.out.1⟩, hg1.trans hg⟩
end Go.Proofs.Ytjgpcjlpdgedoaa
