/- TileMates' walk: it answers true at every input; nothing that was there is written. -/
import Derived.Test.YtafghafdapiadaaTLaws
import Derived.Deep.RegionHeld3
namespace Go.Proofs.Ytafghafdapiadaa
open Go.RowKit

/-- a tile of numbers may be -/
theorem made_may {x y : Int} {n N : Nat} {f : Nat → Int} (hf : ∀ i, i < n → 0 ≤ f i ∧ f i ≤ 255) (hN : (N : Int) = withinF x 1 16 * withinF y 1 16) : mayTB (withinF x 1 16) (withinF y 1 16) N (madeF n f) = true := by
  have xb := within_bd x 1 16 (by omega)
  have yb := within_bd y 1 16 (by omega)
  exact (mayTB_iff _ _ _ _).2 ⟨xb, yb, hN, fun i _ => by have := madeF_bd hf i; omega⟩

/-- what the edges tell of the four neighbours -/
theorem edges {W H l : Int} (hc : isCellB W H l = true) :
    decide (stepF W H l 0 < 0) = decide (l < W) ∧ decide (stepF W H l 1 < 0) = (l % W == W - 1) ∧ decide (stepF W H l 2 < 0) = decide (W * H - W ≤ l) ∧ decide (stepF W H l 3 < 0) = (l % W == 0) := by
  obtain ⟨e0, e1, e2, e3, _⟩ := step_lin hc
  obtain ⟨p1, p2, p3, p4, p5⟩ := place_bd hc
  obtain ⟨m, c0, c1⟩ := (isCellB_iff _ _ _).1 hc
  obtain ⟨m1, m2, m3, m4⟩ := (mayB_iff _ _).1 m
  have q0 := Int.mul_nonneg p3 (show 0 ≤ W by omega)
  have q1 : 1 ≤ l / W ↔ W ≤ l := by rw [Int.le_ediv_iff_mul_le (by omega), Int.one_mul]
  have q2 : H - 1 ≤ l / W ↔ W * H - W ≤ l := by rw [Int.le_ediv_iff_mul_le (by omega), Int.sub_mul, Int.one_mul, Int.mul_comm]
  refine ⟨?_, ?_, ?_, ?_⟩
  · rw [decide_eq_decide, e0]; split <;> omega
  · rw [Bool.eq_iff_iff, decide_eq_true_eq, beq_iff_eq, e1]; split <;> omega
  · rw [decide_eq_decide, e2]
    split
    · rename_i h
      have : ¬ H - 1 ≤ l / W := by omega
      rw [q2] at this
      omega
    · rename_i h
      have : H - 1 ≤ l / W := by omega
      rw [q2] at this
      omega
  · rw [Bool.eq_iff_iff, decide_eq_true_eq, beq_iff_eq, e3]; split <;> omega

theorem step_neg {W H l s : Int} (hc : isCellB W H l = true) (s0 : 0 ≤ s) (s3 : s ≤ 3) (h : stepF W H l s < 0) : stepF W H l s = -1 := by
  obtain ⟨e0, e1, e2, e3, _⟩ := step_lin hc
  obtain ⟨p1, p2, p3, p4, p5⟩ := place_bd hc
  obtain ⟨m, c0, c1⟩ := (isCellB_iff _ _ _).1 hc
  obtain ⟨m1, m2, m3, m4⟩ := (mayB_iff _ _).1 m
  have q0 := Int.mul_nonneg p3 (show 0 ≤ W by omega)
  have q1 : 1 ≤ l / W ↔ W ≤ l := by rw [Int.le_ediv_iff_mul_le (by omega), Int.one_mul]
  rcases (by omega : s = 0 ∨ s = 1 ∨ s = 2 ∨ s = 3) with rfl | rfl | rfl | rfl
  · rw [e0] at h ⊢; split at h <;> split <;> omega
  · rw [e1] at h ⊢; split at h <;> split <;> omega
  · rw [e2] at h ⊢; split at h <;> split <;> omega
  · rw [e3] at h ⊢; split at h <;> split <;> omega
theorem wrapI {x : Int} (h : -9223372036854775808 ≤ x ∧ x ≤ 9223372036854775807) : IntKind.i64.wrap x = x := by rw [IntKind.wrap_i64]; omega
theorem row4 (w : World) (x y z v : Value) (t : TypeId) (f : Nat → Value) (h0 : f 0 = x) (h1 : f 1 = y) (h2 : f 2 = z) (h3 : f 3 = v) : (w.alloc (.cells #[x, y, z, v] t)).rowIs w.heap.size t 4 f :=
  World.rowIs_alloc w #[x, y, z, v] t f (fun i hi => by
    have hi : i < 4 := hi
    rcases (by omega : i = 0 ∨ i = 1 ∨ i = 2 ∨ i = 3) with rfl | rfl | rfl | rfl
    · rw [h0]; rfl
    · rw [h1]; rfl
    · rw [h2]; rfl
    · rw [h3]; rfl)
theorem cell_gr {u u' : World} {b o : Nat} {v : Value} (h : u.cell? ⟨b, o, none⟩ = some v) (g : Gr u u') : u'.cell? ⟨b, o, none⟩ = some v :=
  (g.cell b o (World.block_lt_of_cell? u ⟨b, o, none⟩ h)).trans h

set_option maxHeartbeats 4000000 in
theorem tileMates_any (ad : Option Addr) (n cap : Nat) (f : Nat → Int) (x y l0 : Int) (w : World) (h : Sl w ad n f) (hn : n ≤ maxLen) :
    Calls Try.prog 5 #[.slice ad n cap, .int .i64 x, .int .i64 y, .int .i64 l0] w fun e w' => e = .returned (.bool true) ∧ Gr w w' := by
  go_enter Try.func5, Try.ntmps5
  go_wp2_with fail
  refine (madeTile_any _ _ _ _ _ f _ h hn).mono ?_
  rintro e w1 ⟨⟨g, c', N, rfl, hN, hown⟩, hg1⟩
  have hm := made_may h.byte hN
  generalize withinF x 1 16 = W at *
  generalize withinF y 1 16 = H at *
  generalize madeF n f = F at *
  obtain ⟨-, -, -, -, hsl⟩ := hown.sl
  obtain ⟨n1, n2, -, -⟩ := mayTB_n hm
  obtain ⟨l, hl⟩ : ∃ l, l = withinF l0 0 ((N : Int) - 1) := ⟨_, rfl⟩
  have lb := within_bd l0 0 ((N : Int) - 1) (by omega)
  rw [← hl] at lb
  have HL := hide hl
  clear hl
  have hloc : isLocB W H N F l = true := (isLocB_iff _ _ _ _ _).2 ⟨hm, by omega, by omega⟩
  have hcell := loc_cell hloc
  have HE := hide (edges hcell)
  obtain ⟨p1, p2, p3, p4, -⟩ := place_bd hcell
  obtain ⟨wb, hb, -, -⟩ := (mayTB_iff _ _ _ _).1 hm
  have hz : ¬ W = 0 := by omega
  have HN := hide hN
  clear hown hN
  go_wp2_with fail
  refine (within_st _ _ _ _ (by omega) (by omega) (by omega)).mono ?_
  rintro e w2 ⟨rfl, hw2⟩
  subst hw2
  rw [← HL.out]
  go_wp2_with fail
  go_region_held3 (fun u => u.cell? ⟨w1.heap.size, 0, none⟩ = some (.int .i64 W) ∧ u.cell? ⟨w1.heap.size, 1, none⟩ = some (.int .i64 H) ∧ u.cell? ⟨w1.heap.size, 2, none⟩ = some (.slice (some ⟨g, 0, none⟩) N c')) (go_keep) (fail)
  have t1 : l.tmod W = l % W := Int.tmod_eq_emod_of_nonneg lb.1
  have t2 : IntKind.i64.wrap (W - 1) = W - 1 := wrapI (by omega)
  have t3 : IntKind.i64.wrap ((N : Int) - W) = (N : Int) - W := wrapI (by omega)
  rw [t1, t2, t3]
  clear t1 t2 t3
  obtain ⟨d0, d1, d2, d3⟩ := HE.out
  rw [← HN.out] at d2
  rw [← d0, ← d1, ← d2, ← d3]
  clear d0 d1 d2 d3
  have r1 := row_gr (tri_alloc w1 (.int .i64 W) (.int .i64 H) (.slice (some ⟨g, 0, none⟩) N c') 24) (w' := (((w1.alloc (.cells #[.int .i64 W, .int .i64 H, .slice (some ⟨g, 0, none⟩) N c'] 24)).alloc (.cells #[.int .i64 2, .int .i64 3, .int .i64 0, .int .i64 1] 41)).alloc (.cells #[.bool (decide (stepF W H l 0 < 0)), .bool (decide (stepF W H l 1 < 0)), .bool (decide (stepF W H l 2 < 0)), .bool (decide (stepF W H l 3 < 0))] 42)).drew) (by repeat (first | exact Gr.refl _ | assumption | exact Dr.gr (by assumption) | refine Gr.alloc ?_ _ | refine Gr.drewN ?_ _ | refine Gr.drew ?_ | refine Gr.trans ?_ (by assumption) | refine Gr.trans ?_ (Dr.gr (by assumption))))
  have r2 := row_gr (row4 (w1.alloc (.cells #[.int .i64 W, .int .i64 H, .slice (some ⟨g, 0, none⟩) N c'] 24)) (.int .i64 2) (.int .i64 3) (.int .i64 0) (.int .i64 1) 41 (fun i => .int .i64 (backF i)) rfl rfl rfl rfl) (w' := (((w1.alloc (.cells #[.int .i64 W, .int .i64 H, .slice (some ⟨g, 0, none⟩) N c'] 24)).alloc (.cells #[.int .i64 2, .int .i64 3, .int .i64 0, .int .i64 1] 41)).alloc (.cells #[.bool (decide (stepF W H l 0 < 0)), .bool (decide (stepF W H l 1 < 0)), .bool (decide (stepF W H l 2 < 0)), .bool (decide (stepF W H l 3 < 0))] 42)).drew) (by repeat (first | exact Gr.refl _ | assumption | exact Dr.gr (by assumption) | refine Gr.alloc ?_ _ | refine Gr.drewN ?_ _ | refine Gr.drew ?_ | refine Gr.trans ?_ (by assumption) | refine Gr.trans ?_ (Dr.gr (by assumption))))
  have r3 := row_gr (row4 ((w1.alloc (.cells #[.int .i64 W, .int .i64 H, .slice (some ⟨g, 0, none⟩) N c'] 24)).alloc (.cells #[.int .i64 2, .int .i64 3, .int .i64 0, .int .i64 1] 41)) (.bool (decide (stepF W H l 0 < 0))) (.bool (decide (stepF W H l 1 < 0))) (.bool (decide (stepF W H l 2 < 0))) (.bool (decide (stepF W H l 3 < 0))) 42 (fun i => .bool (decide (stepF W H l i < 0))) rfl rfl rfl rfl) (w' := (((w1.alloc (.cells #[.int .i64 W, .int .i64 H, .slice (some ⟨g, 0, none⟩) N c'] 24)).alloc (.cells #[.int .i64 2, .int .i64 3, .int .i64 0, .int .i64 1] 41)).alloc (.cells #[.bool (decide (stepF W H l 0 < 0)), .bool (decide (stepF W H l 1 < 0)), .bool (decide (stepF W H l 2 < 0)), .bool (decide (stepF W H l 3 < 0))] 42)).drew) (by repeat (first | exact Gr.refl _ | assumption | exact Dr.gr (by assumption) | refine Gr.alloc ?_ _ | refine Gr.drewN ?_ _ | refine Gr.drew ?_ | refine Gr.trans ?_ (by assumption) | refine Gr.trans ?_ (Dr.gr (by assumption))))
  rw [World.size_alloc] at r2
  rw [World.size_alloc, World.size_alloc] at r3
  have hg2 : Gr w1 ((((w1.alloc (.cells #[.int .i64 W, .int .i64 H, .slice (some ⟨g, 0, none⟩) N c'] 24)).alloc (.cells #[.int .i64 2, .int .i64 3, .int .i64 0, .int .i64 1] 41)).alloc (.cells #[.bool (decide (stepF W H l 0 < 0)), .bool (decide (stepF W H l 1 < 0)), .bool (decide (stepF W H l 2 < 0)), .bool (decide (stepF W H l 3 < 0))] 42)).drew) := (by repeat (first | exact Gr.refl _ | assumption | exact Dr.gr (by assumption) | refine Gr.alloc ?_ _ | refine Gr.drewN ?_ _ | refine Gr.drew ?_ | refine Gr.trans ?_ (by assumption) | refine Gr.trans ?_ (Dr.gr (by assumption))))
  generalize ((((w1.alloc (.cells #[.int .i64 W, .int .i64 H, .slice (some ⟨g, 0, none⟩) N c'] 24)).alloc (.cells #[.int .i64 2, .int .i64 3, .int .i64 0, .int .i64 1] 41)).alloc (.cells #[.bool (decide (stepF W H l 0 < 0)), .bool (decide (stepF W H l 1 < 0)), .bool (decide (stepF W H l 2 < 0)), .bool (decide (stepF W H l 3 < 0))] 42)).drew) = u0 at *
  generalize w1.heap.size = B at *
  have hsl0 := hsl.gr hg2
  have hgw := hg1.trans hg2
  clear hg2 hsl hg1
  go_wp2_with fail
  go_loopw [13] (fun s u => ∃ k : Nat, k ≤ 4 ∧ s = .int .i64 k ∧ Gr u0 u) (fun s _ => 4 - (intOf s).toNat)
  case atStart => exact ⟨0, Nat.zero_le _, rfl, Gr.refl _⟩
  case round =>
    obtain ⟨k, hk, rfl, hgr⟩ := hrel
    have R1 := row_gr r1 hgr
    have R2 := row_gr r2 hgr
    have R3 := row_gr r3 hgr
    have c1 := R1.cell (i := 0) (by omega)
    have c2 := R1.cell (i := 1) (by omega)
    have c3 := R1.cell (i := 2) (by omega)
    rw [tri_0] at c1
    rw [tri_1] at c2
    rw [tri_2] at c3
    by_cases hlt : k < 4
    · have c4 := R2.cell (i := k) (by omega)
      have c5 := R3.cell (i := k) (by omega)
      have HD := hide (⟨r1, r2, r3, hm⟩ : _ ∧ _ ∧ _ ∧ _)
      obtain ⟨m, hmm⟩ : ∃ m, m = stepF W H l k := ⟨_, rfl⟩
      obtain ⟨q, hqq⟩ : ∃ q, q = backF k := ⟨_, rfl⟩
      have hnear : nearF W H N F l k = m := by simp [nearF, hloc, hmm]
      have hmate : 0 ≤ m → nearF W H N F m q = l := by
        intro h0
        have hc := step_cell hcell (s := k) (by omega) (by omega) (by omega)
        have hb := step_back hcell (s := k) (by omega) (by omega) (by omega)
        rw [← hmm] at hc hb
        obtain ⟨_, b1, b2⟩ := (isCellB_iff _ _ _).1 hc
        have : isLocB W H N F m = true := (isLocB_iff _ _ _ _ _).2 ⟨hm, b1, by rw [HN.out]; exact b2⟩
        rw [hqq]
        simp [nearF, this, hb]
      have hneg : m < 0 → m = -1 := by intro h0; rw [hmm] at h0 ⊢; exact step_neg hcell (by omega) (by omega) h0
      have HG := hide hneg
      rw [← hmm] at c5
      rw [← hqq] at c4
      clear hneg
      have HM := hide hmate
      clear R1 R2 R3 r1 r2 r3 hmm hqq hmate
      by_cases h0 : 0 ≤ m
      · have hmate := HM.out h0
        have h1 : decide (m < 0) = false := by simp; omega
        have h2 : decide (0 ≤ m) = true := by simp [h0]
        rw [h1] at c5
        have k0 : (0 : Int) ≤ (k : Int) := by omega
        have k4 : (k : Int) < 4 := by omega
        go_wp2_with (go_at_call 15; refine (tnear_any _ _ _ _ _ F _ _ _ (hsl0.gr hgr)).mono ?_; rintro e w3 ⟨rfl, hg3⟩; rw [hnear]; have hg4 := hgr.trans hg3; replace c1 := cell_gr c1 hg3; replace c2 := cell_gr c2 hg3; replace c3 := cell_gr c3 hg3; replace c4 := cell_gr c4 hg3; replace c5 := cell_gr c5 hg3)
        go_region_held3 (fun u => u.cell? ⟨B, 0, none⟩ = some (.int .i64 W) ∧ u.cell? ⟨B, 1, none⟩ = some (.int .i64 H) ∧ u.cell? ⟨B, 2, none⟩ = some (.slice (some ⟨g, 0, none⟩) N c') ∧ u.cell? ⟨B + 1, k, none⟩ = some (.int .i64 q) ∧ u.cell? ⟨B + 1 + 1, k, none⟩ = some (.bool false) ∧ Gr u0 u) (first | exact ⟨c1, c2, c3, c4, c5, hg4.drew⟩ | exact ⟨cell_gr hS.1 hg5, cell_gr hS.2.1 hg5, cell_gr hS.2.2.1 hg5, cell_gr hS.2.2.2.1 hg5, cell_gr hS.2.2.2.2.1 hg5, hS.2.2.2.2.2.trans hg5⟩) ((go_at_call 15; have hS := ‹_ ∧ _ ∧ _ ∧ _ ∧ _ ∧ Gr _ _›; refine (tnear_any _ _ _ _ _ F _ _ _ (hsl0.gr hS.2.2.2.2.2)).mono ?_; rintro e w5 ⟨rfl, hg5⟩; rw [hmate]))
        have hSe := ‹_ ∧ _ ∧ _ ∧ _ ∧ _ ∧ Gr _ w5›
        have hge := hSe.2.2.2.2.2
        clear hSe hS c1 c2 c3 c4 c5
        go_wp2
        go_roundw
        case rel => exact ⟨k + 1, by omega, by go_num, hge⟩
        case measure => simp [intOf]; omega
      · have h1 : decide (m < 0) = true := by simp; omega
        rw [h1] at c5
        have hneg := HG.out (by omega)
        subst hneg
        clear h1 h0
        have k0 : (0 : Int) ≤ (k : Int) := by omega
        have k4 : (k : Int) < 4 := by omega
        go_wp2_with (go_at_call 15; refine (tnear_any _ _ _ _ _ F _ _ _ (hsl0.gr hgr)).mono ?_; rintro e w3 ⟨rfl, hg3⟩; rw [hnear]; have hg4 := hgr.trans hg3; replace c1 := cell_gr c1 hg3; replace c2 := cell_gr c2 hg3; replace c3 := cell_gr c3 hg3; replace c4 := cell_gr c4 hg3; replace c5 := cell_gr c5 hg3)
        go_quiet (fail)
        have hge := hg4.drewN nq
        clear c1 c2 c3 c4 c5
        go_wp2
        go_roundw
        case rel => exact ⟨k + 1, by omega, by go_num, hge⟩
        case measure => simp [intOf]; omega
    · have hk4 : k = 4 := by omega
      subst hk4
      have n4 : nearF W H N F l 4 = l := by simp [nearF, hloc, (step_lin hcell).2.2.2.2]
      have n5 : nearF W H N F l 5 = -1 := by simp [nearF, hloc, stepF, hcell]
      clear R1 R2 R3 r1 r2 r3
      go_wp2_with (first | (go_at_call 8; refine (told_any _).mono ?_; rintro e w3 ⟨rfl, hg3⟩; replace c1 := cell_gr c1 hg3; replace c2 := cell_gr c2 hg3; replace c3 := cell_gr c3 hg3) | (go_at_call 15; refine (tnear_any _ _ _ _ _ F _ _ _ (hsl0.gr (by repeat (first | exact Gr.refl _ | assumption | exact Dr.gr (by assumption) | refine Gr.alloc ?_ _ | refine Gr.drewN ?_ _ | refine Gr.drew ?_ | refine Gr.trans ?_ (by assumption) | refine Gr.trans ?_ (Dr.gr (by assumption)))))).mono ?_; rintro e w3 ⟨rfl, hg3⟩; (first | rw [n4] | rw [n5]); replace c1 := cell_gr c1 hg3; replace c2 := cell_gr c2 hg3; replace c3 := cell_gr c3 hg3))
      go_ret
      exact ⟨ret_bool (by simp), (by repeat (first | exact Gr.refl _ | assumption | exact Dr.gr (by assumption) | refine Gr.alloc ?_ _ | refine Gr.drewN ?_ _ | refine Gr.drew ?_ | refine Gr.trans ?_ (by assumption) | refine Gr.trans ?_ (Dr.gr (by assumption))))⟩

end Go.Proofs.Ytafghafdapiadaa
