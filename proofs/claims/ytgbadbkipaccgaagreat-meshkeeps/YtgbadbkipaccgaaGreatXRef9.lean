/- The document's Spread: made less, as long as anything is. No condition. -/
import Derived.Test.YtgbadbkipaccgaaGreatBX2
import Derived.Deep.LoopGhost
namespace Go.Proofs.YtgbadbkipaccgaaGreat
open Go.RowKit
set_option maxRecDepth 20000

theorem own_slice9 {w : World} {base n k : Nat} {e : TypeId} {v : Value} {xs : List Value} (h : w.ownsRow base e k v n xs) : ∃ a c, v = .slice a n c := by
  rcases h.2 with ⟨e, e0⟩ | ⟨g, cap, cur, e, _⟩
  · subst e0; exact ⟨none, 0, e⟩
  · exact ⟨_, cap, e⟩
def sumF (F : Nat → Int) : Nat → Nat
  | 0 => 0
  | n + 1 => sumF F n + (F n).toNat
theorem sum_above (F : Nat → Int) (c : Nat) (k : Int) : ∀ n, n ≤ c → sumF (upF F c k) n = sumF F n
  | 0, _ => rfl
  | n + 1, h => by
    unfold sumF
    rw [sum_above F c k n (by omega), upF_ne F k (by omega)]
theorem sum_up {F : Nat → Int} {c : Nat} {k : Int} (h0 : 0 ≤ k) (h1 : k < F c) : ∀ {n}, c < n → sumF (upF F c k) n < sumF F n
  | 0, h => absurd h (Nat.not_lt_zero _)
  | n + 1, h => by
    unfold sumF
    by_cases e : c = n
    · subst e
      rw [sum_above F c k c (Nat.le_refl _), upF_at]
      omega
    · have := sum_up h0 h1 (n := n) (by omega)
      rw [upF_ne F k (by omega)]
      omega
/-- what is told so far is the cost of a way -/
def Iv (nb : Int → Int → Int) (f : Nat → Int) (n : Nat) (L : List Sd) (F : Nat → Int) : Prop := ∀ c, c < n → (0 ≤ F c ∧ F c ≤ 1099511627776) ∧ (F c < 1099511627776 → Told nb f n L c (F c))
def OkS (nb : Int → Int → Int) (f : Nat → Int) (n : Nat) (F : Nat → Int) (c : Nat) (s : Int) : Prop := f c ≠ 255 → ∀ m : Nat, nb (c : Int) s = (m : Int) → m < n → f m ≠ 255 → F m < 1099511627776 → F c ≤ F m + f m
def Okk (nb : Int → Int → Int) (f : Nat → Int) (n : Nat) (F : Nat → Int) (c : Nat) : Prop := ∀ s : Int, 0 ≤ s → s ≤ 3 → OkS nb f n F c s
def Sok (L : List Sd) (F : Nat → Int) (j : Nat) : Prop := ∀ i, i < j → ∀ c : Nat, (el L i).1 = (c : Int) → F c ≤ (el L i).2.2
section
variable {nb : Int → Int → Int} {f : Nat → Int} {n : Nat} {L : List Sd} {F : Nat → Int}
theorem Iv.up {c : Nat} {k : Int} (h : Iv nb f n L F) (h0 : 0 ≤ k) (h1 : k ≤ F c) (h2 : k < 1099511627776 → Told nb f n L c k) : Iv nb f n L (upF F c k) := by
  intro d hd
  by_cases e : d = c
  · subst e
    rw [upF_at]
    exact ⟨⟨h0, by have := (h d hd).1.2; omega⟩, h2⟩
  · rw [upF_ne F k e]
    exact h d hd
theorem Sok.up {c : Nat} {k : Int} {j : Nat} (h : Sok L F j) (h1 : k ≤ F c) : Sok L (upF F c k) j := by
  intro i hi d hd
  have := h i hi d hd
  by_cases e : d = c
  · subst e; rw [upF_at]; omega
  · rw [upF_ne F k e]; exact this
theorem ref_end (hg : Gph nb f n) (h : Iv nb f n L F) (hs : Sok L F L.length) (hk : ∀ c, c < n → Okk nb f n F c) : Sprd nb f n L F := by
  refine Sprd.of hg (fun c hc => (h c hc).1.2) (fun c hc => (h c hc).2) (fun x hx c e => ?_) (fun c m s a1 a2 a3 a4 a5 a6 a7 a8 => hk c a1 s a3 a4 a6 m a5 a2 a7 a8)
  obtain ⟨i, hi, rfl⟩ := mem_el hx
  exact hs i hi c e
end
theorem step_near {W H : Int} {n : Nat} {f : Nat → Int} (hm : mayTB W H n f = true) {c : Nat} (hc : c < n) (s : Int) : stepF W H (c : Int) s = nearF W H n f (c : Int) s := by
  have hl : isLocB W H n f (c : Int) = true := (isLocB_iff _ _ _ _ _).2 ⟨hm, by omega, by omega⟩
  simp [nearF, hl]

set_option maxHeartbeats 8000000 in
theorem rspread_any {W H : Int} {al : Option Addr} {n cap : Nat} {f : Nat → Int} {bl : Option Addr} {m c : Nat} {L : List Sd} {K : Int} {w : World}
    (h : Sl w al n f) (hm : mayTB W H n f = true) (g : SlS w bl m c L) (hs : Sds f n K L) (hm8 : m ≤ 800000) :
    Calls Tryz.prog 47 #[.agg #[.int .i64 W, .int .i64 H, .slice al n cap], .slice bl m c] w fun e w' => (∃ g cf F, e = .returned (.slice (some ⟨g, 0, none⟩) n cf) ∧ w.heap.size ≤ g ∧ FarS w' g cf n F ∧ Sprd (nearF W H n f) f n L F) ∧ Gr w w' := by
  obtain ⟨i0, hi, hz0, hz1, hz2⟩ := info_parts info_int
  have hgph := gph_of hm h.byte
  have hn1 := (mayTB_n hm).1
  have hn2 := (mayTB_n hm).2.1
  have HML := hide g.len.1
  obtain ⟨c1, c2, c3⟩ := tri_at w W H (.slice al n cap)
  have hg1 : Gr w (w.alloc (.cells #[.int .i64 W, .int .i64 H, .slice al n cap] 83)) := (Gr.refl w).alloc _
  have hB := World.block_lt_of_cell? _ _ c1
  go_enter Tryz.func47, Tryz.ntmps47
  go_wp2_with fail
  generalize (w.alloc (.cells #[.int .i64 W, .int .i64 H, .slice al n cap] 83)) = w1 at *
  generalize hB0 : w.heap.size = B0 at *
  replace h := h.gr hg1
  replace g := g.gr hg1
  obtain ⟨b, o, rfl, hb, hcell⟩ := h.at (by omega)
  have HC := hide hcell
  have HDK : Hid (Sds f n K L) := hide hs
  have hw01 : w.heap.size ≤ w1.heap.size := Below.size hg1
  clear hcell hs
  go_loopw [5, 6] (fun v i u => ∃ (j c' : Nat) (a' : Option Addr), j ≤ n ∧ i = .int .i64 j ∧ v = .slice a' j c' ∧ u.ownsRow w1.heap.size 3 1 (.slice a' j c') j (cel .i64 j (fun _ => 1099511627776)) ∧ Gr w1 u) (fun _ i _ => n - (intOf i).toNat)
  case atStart => exact ⟨0, 0, none, by omega, rfl, rfl, World.ownsRow_nil _ _ _ _, Gr.refl _⟩
  case round =>
    obtain ⟨j, c', a', hj, rfl, rfl, hown, hgu⟩ := hrel
    generalize wr = w2 at *
    have d3 := cell_gr c3 hgu
    by_cases hjn : j < n
    · have hji : (j : Int) < (n : Int) := by omega
      have HO := hide hown
      have HG := hide hgu
      clear hown hgu
      go_wp2_with (at_builtin; refine wpList_append_own _ rfl _ _ 31 rfl w1.heap.size 3 i0 (.int .i64 0) 1 8 Tryz.underlying31 hi hz0 hz1 hz2 rfl (by decide) _ _ _ rfl (HO.out.alloc _) ⟨w2.heap.size, 0, none⟩ 1 1 [.int .i64 1099511627776] rfl rfl (alloc_one _ _ _) (by simp [Value.oneCell']) (by unfold maxLen; omega) (by omega) (by have := HG.out.size; simp only [World.size_alloc]; omega) ?_; intro v' w3 hown' hgrow hnil)
      obtain ⟨a2, c2', rfl⟩ := own_slice9 hown'
      go_roundw
      case rel => exact ⟨j + 1, c2', a2, by omega, by go_num, rfl, by rw [cel_succ]; exact hown', Gr.grown (HG.out.alloc _) hgrow (fun q e => (HO.out.lt q e).1)⟩
      case measure => simp [intOf]; omega
    · obtain rfl : j = n := by omega
      have hji : ¬ (j : Int) < (j : Int) := by omega
      obtain ⟨gf, cf, e, hge, hfar⟩ := FarS.of_own hown (by omega)
      cases e
      clear hown
      go_wp2_with fail
      go_loopw [7] (fun iv u => ∃ (i : Nat) (F : Nat → Int), i ≤ m ∧ iv = .int .i64 i ∧ FarS u gf c' j F ∧ Hid (Iv (nearF W H j f) f j L F ∧ Sok L F i) ∧ Gr w1 u) (fun iv _ => m - (intOf iv).toNat)
      case atStart => exact ⟨0, _, by omega, rfl, hfar, hide ⟨fun c hc => ⟨⟨by simp only; omega, by simp only; omega⟩, fun q => by simp only at q; omega⟩, fun i hi => absurd hi (Nat.not_lt_zero _)⟩, hgu⟩
      case round =>
        obtain ⟨i, F, hi', rfl, hfar', HI, hgi⟩ := hrel
        generalize wr = w3 at *
        clear hfar hgu d3
        by_cases him : i < m
        · have himi : (i : Int) < (m : Int) := by omega
          obtain ⟨bs, os, rfl, -, hcs⟩ := g.at (by omega)
          obtain ⟨x1, -, x3⟩ := hcs i him
          replace x1 := cell_gr x1 hgi
          replace x3 := cell_gr x3 hgi
          have hmem : el L i ∈ L := el_mem (by have := HML.out; omega)
          obtain ⟨C, hC1, hC2, hC3, hC4, hC5⟩ := HDK.out _ hmem
          have HT : Hid (Told (nearF W H j f) f j L C (el L i).2.2) := hide (.seed C _ hmem hC1)
          rw [hC1] at x1
          obtain ⟨q3, hq3⟩ : ∃ q3, q3 = (el L i).2.2 := ⟨_, rfl⟩
          rw [← hq3] at x3 hC4 hC5 HT
          have HQ1 := hide hC1
          have HQ3 := hide hq3
          clear hcs hmem hC1 hq3
          have hCi : (C : Int) < (j : Int) := by omega
          have hC0 : (0 : Int) ≤ (C : Int) := by omega
          have y1 := hfar'.cell hC2
          have y2 := hfar'.frozen C
          have hFC := (HI.out.1 C hC2).1
          have HUP : Hid (Iv (nearF W H j f) f j L (upF F C (min (F C) q3)) ∧ Sok L (upF F C (min (F C) q3)) (i + 1)) := hide (by
            obtain ⟨a1, a2⟩ := HI.out
            refine ⟨a1.up (by omega) (by omega) (fun hk => ?_), fun i' hi2 d hd => ?_⟩
            · by_cases hq : q3 ≤ F C
              · rw [show min (F C) q3 = q3 by omega]; exact HT.out
              · rw [show min (F C) q3 = F C by omega] at hk ⊢; exact (a1 C hC2).2 hk
            · by_cases e : i' = i
              · subst e
                have e1 := HQ1.out
                obtain rfl : d = C := by omega
                rw [upF_at, ← HQ3.out]
                omega
              · exact a2.up (by omega) i' (by omega) d hd)
          generalize F C = vC at *
          go_upto_region 9 with fail
          have hge' : w1.heap.size ≤ gf := hge
          go_region_with (fail)
          all_goals (
            go_wp2_with fail
            go_roundw
            case rel => exact ⟨i + 1, _, by omega, by go_num, (hfar'.gr ((Gr.refl w3).drew)).set C _, HUP, (hgi.drew).set hge' _⟩
            case measure => simp [intOf]; omega)
        · obtain rfl : i = m := by omega
          have himi : ¬ (i : Int) < (i : Int) := by omega
          have HI0 : Hid (Iv (nearF W H j f) f j L F ∧ Sok L F L.length) := hide ⟨HI.out.1, by rw [HML.out]; exact HI.out.2⟩
          clear HI
          go_wp2_with fail
          go_loopg [8] (sumF F j + 1) (fun k v u => ∃ (b : Bool) (F : Nat → Int), v = .bool b ∧ FarS u gf c' j F ∧ Hid (Iv (nearF W H j f) f j L F ∧ Sok L F L.length ∧ (b = true → sumF F j < k) ∧ (b = false → ∀ c, c < j → Okk (nearF W H j f) f j F c)) ∧ Gr w1 u)
          case atStart => exact ⟨true, F, rfl, hfar', hide ⟨HI0.out.1, HI0.out.2, fun _ => by omega, fun e => by cases e⟩, hgi⟩
          case round =>
            clear HI0 hfar' hgi
            obtain ⟨bb, F0, rfl, hfar0, HI0, hg0⟩ := hrel
            generalize wr = w4 at *
            cases bb with
            | false =>
              have HS : Hid (Sprd (nearF W H j f) f j L F0) := hide (ref_end hgph HI0.out.1 HI0.out.2.1 (HI0.out.2.2.2 rfl))
              go_wp2_with fail
              go_ret
              exact ⟨⟨gf, c', rfl, by omega, F0, hfar0, HS.out⟩, hg1.trans hg0⟩
            | true =>
              have HS0 : Hid (sumF F0 j < gk) := hide (HI0.out.2.2.1 rfl)
              go_wp2_with fail
              go_loopw [8, 9] (fun bv cv u => ∃ (bb : Bool) (c : Nat) (F : Nat → Int), bv = .bool bb ∧ cv = .int .i64 c ∧ c ≤ j ∧ FarS u gf c' j F ∧ Hid (Iv (nearF W H j f) f j L F ∧ Sok L F L.length ∧ sumF F j ≤ sumF F0 j ∧ (bb = true → sumF F j < sumF F0 j) ∧ (bb = false → ∀ d, d < c → Okk (nearF W H j f) f j F d)) ∧ Gr w1 u) (fun _ cv _ => j - (intOf cv).toNat)
              case atStart => exact ⟨false, 0, F0, rfl, rfl, by omega, hfar0, hide ⟨HI0.out.1, HI0.out.2.1, Nat.le_refl _, fun e => (by cases e), fun _ d hd => absurd hd (Nat.not_lt_zero _)⟩, hg0⟩
              case round =>
                clear hfar0 hg0
                obtain ⟨bb, c, F1, rfl, rfl, hcj, hfar1, HI1, hg1'⟩ := hrel
                generalize wr = w5 at *
                by_cases hcn : c < j
                · have hci : (c : Int) < (j : Int) := by omega
                  have tcell := HC.out c hcn
                  obtain ⟨tv, htv⟩ : ∃ tv, tv = f c := ⟨_, rfl⟩
                  rw [← htv] at tcell
                  have HTV := hide htv
                  clear htv
                  go_wp2_with fail
                  go_loopw [8, 10] (fun bv sv u => ∃ (bb : Bool) (s : Nat) (F : Nat → Int), bv = .bool bb ∧ sv = .int .i64 s ∧ s ≤ 4 ∧ FarS u gf c' j F ∧ Hid (Iv (nearF W H j f) f j L F ∧ Sok L F L.length ∧ sumF F j ≤ sumF F0 j ∧ (bb = true → sumF F j < sumF F0 j) ∧ (bb = false → (∀ d, d < c → Okk (nearF W H j f) f j F d) ∧ ∀ r : Int, 0 ≤ r → r < (s : Int) → OkS (nearF W H j f) f j F c r)) ∧ Gr w1 u) (fun _ sv _ => 4 - (intOf sv).toNat)
                  case atStart => exact ⟨bb, 0, F1, rfl, rfl, by omega, hfar1, hide ⟨HI1.out.1, HI1.out.2.1, HI1.out.2.2.1, HI1.out.2.2.2.1, fun e => ⟨HI1.out.2.2.2.2 e, fun r a b => by omega⟩⟩, hg1'⟩
                  case round =>
                    clear hfar1 hg1' HI1
                    obtain ⟨bb, s, F1, rfl, rfl, hs4, hfar1, HI1, hg1'⟩ := hrel
                    generalize wr = w6 at *
                    have e1 := cell_gr c1 hg1'
                    have e2 := cell_gr c2 hg1'
                    have e3 := cell_gr c3 hg1'
                    have e4 := cell_gr tcell hg1'
                    by_cases hs3 : s < 4
                    · have hsi : (s : Int) ≤ 3 := by omega
                      have hs0 : (0 : Int) ≤ (s : Int) := by omega
                      by_cases htw : tv = 255
                      · have etw : (tv != 255) = false := by simp [htw]
                        have HN : Hid (Iv (nearF W H j f) f j L F1 ∧ Sok L F1 L.length ∧ sumF F1 j ≤ sumF F0 j ∧ (bb = true → sumF F1 j < sumF F0 j) ∧ (bb = false → ∀ d, d < c + 1 → Okk (nearF W H j f) f j F1 d)) := hide (by
                          obtain ⟨a1, a2, a3, a4, a5⟩ := HI1.out
                          refine ⟨a1, a2, a3, a4, fun e d hd => ?_⟩
                          by_cases ed : d = c
                          · subst ed
                            intro r _ _ hne
                            exact absurd (HTV.out.symm.trans htw) hne
                          · exact (a5 e).1 d (by omega))
                        clear htw
                        go_wp2_with fail
                        go_roundw
                        case rel => exact ⟨bb, c + 1, F1, rfl, by go_num, by omega, hfar1, HN, hg1'⟩
                        case measure => simp [intOf]; omega
                      · have etw : (tv != 255) = true := by simp [htw]
                        have HNE : Hid (f c ≠ 255) := hide (by rw [← HTV.out]; exact htw)
                        clear htw
                        go_wp2_with fail
                        refine (rstep_any W H (c : Int) (s : Int) _).mono ?_
                        rintro e w7 ⟨rfl, hd7⟩
                        rw [step_near hm hcn]
                        have hg7 := hg1'.trans hd7.gr
                        have hfar7 := hfar1.gr hd7.gr
                        replace e3 := cell_gr e3 hd7.gr
                        clear hfar1 hg1' hd7 e1 e2 e4
                        have hgf7 : w1.heap.size ≤ gf := hge
                        have PASS : Hid (OkS (nearF W H j f) f j F1 c (s : Int) → Iv (nearF W H j f) f j L F1 ∧ Sok L F1 L.length ∧ sumF F1 j ≤ sumF F0 j ∧ (bb = true → sumF F1 j < sumF F0 j) ∧ (bb = false → (∀ d, d < c → Okk (nearF W H j f) f j F1 d) ∧ ∀ r : Int, 0 ≤ r → r < ((s + 1 : Nat) : Int) → OkS (nearF W H j f) f j F1 c r)) := hide (fun ok => by
                          obtain ⟨a1, a2, a3, a4, a5⟩ := HI1.out
                          refine ⟨a1, a2, a3, a4, fun e => ⟨(a5 e).1, fun r r0 r1 => ?_⟩⟩
                          by_cases er : r = (s : Int)
                          · subst er; exact ok
                          · exact (a5 e).2 r r0 (by omega))
                        rcases near_cases W H j f c s with hz | ⟨q, hz⟩
                        · have HN := hide (PASS.out (fun _ m e _ _ _ => by omega))
                          have hz1 : nearF W H j f c s = -1 := by
                            rcases near_ge W H j f c s with h | h
                            · exact h
                            · omega
                          rw [hz1]
                          clear hz hz1
                          go_upto_region 20 with fail
                          go_quiet (fail)
                          go_wp2_with fail
                          go_roundw
                          case rel => exact ⟨bb, s + 1, F1, rfl, by go_num, by omega, hfar7.gr ((Gr.refl _).drewN _), HN, hg7.drewN _⟩
                          case measure => simp [intOf]; omega
                        · obtain ⟨hqn, -⟩ := hgph.sym c q s hs0 hsi hz hcn
                          have hq0 : (0 : Int) ≤ (q : Int) := by omega
                          have hqi : (q : Int) < (j : Int) := by omega
                          have tq := cell_gr (HC.out q hqn) hg7
                          have fq := hfar7.cell hqn
                          have fc := hfar7.cell hcn
                          have fz := hfar7.frozen c
                          have htq := hgph.cost q hqn
                          have hFq := HI1.out.1 q hqn
                          have hFc := (HI1.out.1 c hcn).1
                          have hFqb := hFq.1
                          have HTQ : Hid (F1 q < 1099511627776 → f q ≠ 255 → Told (nearF W H j f) f j L c (F1 q + f q)) := hide (fun e1 e2 => .step c q s _ (hFq.2 e1) hs0 hsi hz hcn hqn HNE.out e2)
                          have HOK : Hid ((f q = 255 ∨ ¬ F1 q < 1099511627776 ∨ ¬ F1 q + f q < F1 c) → OkS (nearF W H j f) f j F1 c (s : Int)) := hide (fun e _ m em _ h1 h2 => by
                            obtain rfl : m = q := by omega
                            rcases e with e | e | e
                            · exact absurd e h1
                            · exact absurd h2 e
                            · omega)
                          rw [hz]
                          clear hFq hz
                          have HSU : Hid (0 ≤ F1 q + f q → F1 q + f q < F1 c → sumF (upF F1 c (F1 q + f q)) j < sumF F1 j) := hide (fun h0 h1 => sum_up h0 h1 hcn)
                          obtain ⟨k, hk⟩ : ∃ k, k = F1 q + f q := ⟨_, rfl⟩
                          rw [← hk] at HTQ HOK HSU
                          obtain ⟨vq, hvq⟩ : ∃ vq, vq = f q := ⟨_, rfl⟩
                          obtain ⟨pq, hpq⟩ : ∃ pq, pq = F1 q := ⟨_, rfl⟩
                          obtain ⟨pc, hpc⟩ : ∃ pc, pc = F1 c := ⟨_, rfl⟩
                          rw [← hvq] at tq htq hk HOK HTQ
                          rw [← hpq] at fq hFqb hk HOK HTQ
                          rw [← hpc] at fc hFc HOK HSU
                          have HPC := hide hpc
                          have HKK := hide hk
                          have hk0 : 0 ≤ k := by omega
                          clear hvq hpq hpc hk
                          have hwr1 : IntKind.i64.wrap vq = vq := wrapI (by omega)
                          have hwr2 : IntKind.i64.wrap (pq + vq) = pq + vq := wrapI (by omega)
                          by_cases hv255 : vq = 255
                          · have HN := hide (PASS.out (HOK.out (.inl hv255)))
                            have eq1 : (vq != 255) = false := by simp [hv255]
                            clear hv255
                            go_upto_region 20 with fail
                            go_quiet (fail)
                            go_wp2_with fail
                            go_roundw
                            case rel => exact ⟨bb, s + 1, F1, rfl, by go_num, by omega, hfar7.gr ((Gr.refl _).drewN _), HN, hg7.drewN _⟩
                            case measure => simp [intOf]; omega
                          · have eq1 : (vq != 255) = true := by simp [hv255]
                            by_cases hinf : pq < 1099511627776
                            · by_cases hlt : pq + vq < pc
                              · have HUP : Hid (Iv (nearF W H j f) f j L (upF F1 c k) ∧ Sok L (upF F1 c k) L.length ∧ sumF (upF F1 c k) j ≤ sumF F0 j ∧ (true = true → sumF (upF F1 c k) j < sumF F0 j) ∧ (true = false → (∀ d, d < c → Okk (nearF W H j f) f j (upF F1 c k) d) ∧ ∀ r : Int, 0 ≤ r → r < ((s + 1 : Nat) : Int) → OkS (nearF W H j f) f j (upF F1 c k) c r)) := hide (by
                                  obtain ⟨a1, a2, a3, a4, a5⟩ := HI1.out
                                  have e1 := HKK.out
                                  have e2 := HPC.out
                                  have h1 := HSU.out hk0 (by omega)
                                  exact ⟨a1.up hk0 (by omega) (fun _ => HTQ.out hinf hv255), a2.up (by omega), by omega, fun _ => by omega, fun e => by cases e⟩)
                                have hfar8 := hfar7.gr ((Gr.refl w7).drew)
                                clear hv255
                                go_upto_region 20 with fail
                                go_quiet (fail)
                                have tq' := cell_gr tq ((Gr.refl w7).drewN nq)
                                have fq' := cell_gr fq ((Gr.refl w7).drewN nq)
                                have e3' := cell_gr e3 ((Gr.refl w7).drewN nq)
                                have fc' := cell_gr fc ((Gr.refl w7).drewN nq)
                                have hfar9 := hfar7.gr ((Gr.refl w7).drewN nq)
                                have fz' := hfar9.frozen c
                                have hg9 := hg7.drewN nq
                                clear hfar8 hfar7 hg7 tq fq e3 fc fz
                                generalize (w7.drewN nq) = w8 at *
                                rw [HKK.out] at HUP
                                go_upto_region 21 with fail
                                go_region_with (fail)
                                all_goals (
                                  go_wp2_with fail
                                  go_roundw
                                  case rel => exact ⟨true, s + 1, _, rfl, by go_num, by omega, (hfar9.gr ((Gr.refl w8).drew)).set c _, hide ⟨HUP.out.1, HUP.out.2.1, HUP.out.2.2.1, fun _ => (by first | exact HUP.out.2.2.2.1 trivial | exact HUP.out.2.2.2.1 rfl), fun e => (by cases e)⟩, (hg9.drew).set hgf7 _⟩
                                  case measure => simp [intOf]; omega)
                              · have HN := hide (PASS.out (HOK.out (.inr (.inr (by rw [HKK.out]; exact hlt)))))
                                clear hv255
                                go_upto_region 20 with fail
                                go_quiet (fail)
                                go_wp2_with fail
                                go_roundw
                                case rel => exact ⟨bb, s + 1, F1, rfl, by go_num, by omega, hfar7.gr ((Gr.refl _).drewN _), HN, hg7.drewN _⟩
                                case measure => simp [intOf]; omega
                            · have HN := hide (PASS.out (HOK.out (.inr (.inl hinf))))
                              obtain rfl : pq = 1099511627776 := by omega
                              clear hv255 hinf
                              go_upto_region 20 with fail
                              go_quiet (fail)
                              go_wp2_with fail
                              go_roundw
                              case rel => exact ⟨bb, s + 1, F1, rfl, by go_num, by omega, hfar7.gr ((Gr.refl _).drewN _), HN, hg7.drewN _⟩
                              case measure => simp [intOf]; omega
                    · obtain rfl : s = 4 := by omega
                      have HN : Hid (Iv (nearF W H j f) f j L F1 ∧ Sok L F1 L.length ∧ sumF F1 j ≤ sumF F0 j ∧ (bb = true → sumF F1 j < sumF F0 j) ∧ (bb = false → ∀ d, d < c + 1 → Okk (nearF W H j f) f j F1 d)) := hide (by
                        obtain ⟨a1, a2, a3, a4, a5⟩ := HI1.out
                        refine ⟨a1, a2, a3, a4, fun e d hd => ?_⟩
                        by_cases ed : d = c
                        · subst ed
                          intro r r0 r3
                          exact (a5 e).2 r r0 (by omega)
                        · exact (a5 e).1 d (by omega))
                      go_wp2_with fail
                      go_roundw
                      case rel => exact ⟨bb, c + 1, F1, rfl, by go_num, by omega, hfar1, HN, hg1'⟩
                      case measure => simp [intOf]; omega
                · obtain rfl : c = j := by omega
                  have hci : ¬ (c : Int) < (c : Int) := by omega
                  go_wp2_with fail
                  go_roundg (gk - 1)
                  case measure => have := HS0.out; omega
                  case rel => exact ⟨bb, F1, rfl, hfar1, hide ⟨HI1.out.1, HI1.out.2.1, fun e => by have := HI1.out.2.2.2.1 e; have := HS0.out; omega, HI1.out.2.2.2.2⟩, hg1'⟩
end Go.Proofs.YtgbadbkipaccgaaGreat
