/- What the statements' 'near' of layer 3 gives. -/
import Derived.Test.YtcbcekgjpcpibaaDoorPNear
namespace Go.Proofs.YtcbcekgjpcpibaaDoor
open Go.RowKit
set_option maxRecDepth 20000

set_option maxHeartbeats 2000000 in
theorem near_raw (W H : Int) (a : Option Addr) (n cap : Nat) (f : Nat → Int) (x y few : Int) (w : World) (h : Sl w a n f) (hn : n ≤ 600) (ha : a = none → n = 0 ∧ cap = 0) :
    Calls Tryd.prog 13 #[.agg #[.int .i64 W, .int .i64 H, .slice a n cap], .int .i64 x, .int .i64 y, .int .i64 few, .bool true] w fun e w' => (∃ g c', e = .returned (.agg #[.int .i64 W, .int .i64 H, .slice (some ⟨g, 0, none⟩) n c']) ∧ OwnB w' w.heap.size g n c' f) ∧ Gr w w' := by
  go_enter Tryd.func13, Tryd.ntmps13
  go_wp2_with (go_at_call 21; refine (ownTile_any _ _ _ _ _ f _ (h.gr (by repeat (first | exact Gr.refl _ | assumption | exact Dr.gr (by assumption) | refine Gr.alloc ?_ _ | refine Gr.drewN ?_ _ | refine Gr.drew ?_ | refine Gr.trans ?_ (by assumption) | refine Gr.trans ?_ (Dr.gr (by assumption))))) (by omega) ha).mono ?_; rintro e w1 ⟨⟨g, c', rfl, hown⟩, hg⟩; obtain ⟨ho, hf, hs⟩ := hg.old)
  have hb : w.heap.size + 1 < g := by have := hown.sl.2.2.1; simp only [World.size_alloc] at this; omega
  exact bodyPost_ret (v := .agg #[.int .i64 W, .int .i64 H, .slice (some ⟨g, 0, none⟩) n c']) (by simp [results, Tryd.results13, go_sem, ho]) rfl ⟨⟨g, c', rfl, ((((hown.mono (base' := w.heap.size) (by simp only [World.size_alloc]; omega)).setO (p := ⟨w.heap.size + 1, 0, none⟩) (by show g ≠ w.heap.size + 1; omega) _).setO (p := ⟨w.heap.size + 1, 1, none⟩) (by show g ≠ w.heap.size + 1; omega) _).setO (p := ⟨w.heap.size + 1, 2, none⟩) (by show g ≠ w.heap.size + 1; omega) _)⟩, (by repeat (first | exact Gr.refl _ | assumption | exact Dr.gr (by assumption) | refine Gr.alloc ?_ _ | refine Gr.drewN ?_ _ | refine Gr.drew ?_ | (refine Gr.set ?_ (by first | exact Nat.le_refl _ | exact Nat.le_succ _ | (show _ ≤ _; omega) | (simp only [World.size_alloc] at *; omega)) _) | refine Gr.trans ?_ (by assumption) | refine Gr.trans ?_ (Dr.gr (by assumption))))⟩

set_option maxHeartbeats 4000000 in
theorem near_made (W H : Int) (a : Option Addr) (n cap : Nat) (f : Nat → Int) (x y few : Int) (w : World) (h : Sl w a n f) (hn : n ≤ maxLen) :
    Calls Tryd.prog 13 #[.agg #[.int .i64 W, .int .i64 H, .slice a n cap], .int .i64 x, .int .i64 y, .int .i64 few, .bool false] w fun e w' => (∃ g c' N F W' H', e = .returned (.agg #[.int .i64 W', .int .i64 H', .slice (some ⟨g, 0, none⟩) N c']) ∧ OwnB w' w.heap.size g N c' F ∧ mayTB W' H' N F = true) ∧ Gr w w' := by
  go_enter Tryd.func13, Tryd.ntmps13
  go_wp2_with fail
  refine (madeTile_any _ _ _ _ _ f _ (h.gr (by repeat (first | exact Gr.refl _ | assumption | exact Dr.gr (by assumption) | refine Gr.alloc ?_ _ | refine Gr.drewN ?_ _ | refine Gr.drew ?_ | refine Gr.trans ?_ (by assumption) | refine Gr.trans ?_ (Dr.gr (by assumption))))) hn).mono ?_
  rintro e w1 ⟨⟨g, c', N, rfl, hN, hown⟩, hg1⟩
  have hm := made_may h.byte hN
  have hF := madeF_bd h.byte
  generalize withinF x 1 16 = W1 at *
  generalize withinF y 1 16 = H1 at *
  generalize madeF n f = F at *
  obtain ⟨n1, n2, -, -⟩ := mayTB_n hm
  obtain ⟨q, hq⟩ : ∃ q, q = withinF few 0 2 := ⟨_, rfl⟩
  have qb := within_bd few 0 2 (by omega)
  rw [← hq] at qb
  have HQ := hide hq
  clear hq
  have hmay : mayTB W1 H1 N (fewF q F) = true := by
    obtain ⟨m1, m2, m3, -⟩ := (mayTB_iff _ _ _ _).1 hm
    exact (mayTB_iff _ _ _ _).2 ⟨m1, m2, m3, fun i _ => by have := fewF_bd (q := q) hF i; omega⟩
  have hq5 := hown.sl
  simp only [World.size_alloc] at hq5 hown
  have hgB : w.heap.size + 1 < g ∧ g < w1.heap.size := by omega
  clear hq5
  have HM := hide hmay
  have HF := hide hF
  clear hmay hm hN hF
  have s0 := tri_alloc w1 (.int .i64 W1) (.int .i64 H1) (.slice (some ⟨g, 0, none⟩) N c') 26
  have s1 : (w1.alloc (.cells #[.int .i64 W1, .int .i64 H1, .slice (some ⟨g, 0, none⟩) N c'] 26)).rowIs (w.heap.size + 1) 26 3 (tri (.int .i64 0) (.int .i64 0) (.slice none 0 0)) := by
    have := tri_alloc (w.alloc (.cells #[.int .i64 W, .int .i64 H, .slice a n cap] 26)) (.int .i64 0) (.int .i64 0) (.slice none 0 0) 26
    rw [World.size_alloc] at this
    exact row_gr this (hg1.alloc _)
  have s2 : OwnB (w1.alloc (.cells #[.int .i64 W1, .int .i64 H1, .slice (some ⟨g, 0, none⟩) N c'] 26)) (w.heap.size + 1 + 1) g N c' (fewP q F 0) := (hown.gr ((Gr.refl _).alloc _)).congr fun i _ => fewP_zero q F i
  have s3 : Gr w (w1.alloc (.cells #[.int .i64 W1, .int .i64 H1, .slice (some ⟨g, 0, none⟩) N c'] 26)) := (by repeat (first | exact Gr.refl _ | assumption | exact Dr.gr (by assumption) | refine Gr.alloc ?_ _ | refine Gr.drewN ?_ _ | refine Gr.drew ?_ | refine Gr.trans ?_ (by assumption) | refine Gr.trans ?_ (Dr.gr (by assumption))))
  go_wp2_with fail
  generalize (w1.alloc (.cells #[.int .i64 W1, .int .i64 H1, .slice (some ⟨g, 0, none⟩) N c'] 26)) = u0 at *
  generalize w1.heap.size = B2 at *
  clear hown hg1
  go_loopw [12] (fun i u => ∃ k : Nat, k ≤ N ∧ i = .int .i64 k ∧ OwnB u (w.heap.size + 1 + 1) g N c' (fewP q F k) ∧ u.rowIs B2 26 3 (tri (.int .i64 W1) (.int .i64 H1) (.slice (some ⟨g, 0, none⟩) N c')) ∧ u.rowIs (w.heap.size + 1) 26 3 (tri (.int .i64 0) (.int .i64 0) (.slice none 0 0)) ∧ Gr w u) (fun i _ => N - (intOf i).toNat)
  case atStart => exact ⟨0, Nat.zero_le _, rfl, s2, s0, s1, s3⟩
  case round =>
    clear s0 s1 s2 s3
    obtain ⟨k, hk, rfl, hown, hr1, hr0, hgr⟩ := hrel
    have c1 := hr1.cell (i := 0) (by omega)
    have c2 := hr1.cell (i := 1) (by omega)
    have c3 := hr1.cell (i := 2) (by omega)
    rw [tri_0] at c1
    rw [tri_1] at c2
    rw [tri_2] at c3
    by_cases hlt : k < N
    · rcases (by omega : q = 0 ∨ q = 1 ∨ q = 2) with rfl | rfl | rfl
      · have d0 := hown.cellAt (i := 0) (by omega)
        rw [fewP_at0] at d0
        have dk := hown.cellAt (i := k) hlt
        have fk := hown.own.frozenAt k
        have HO := hide hown
        have HR := hide (⟨hr1, hr0⟩ : _ ∧ _)
        clear hown hr1 hr0
        have k0 : 0 ≤ (k : Int) := by omega
        have k1 : (k : Int) < N := by omega
        have n0 : 0 < N := by omega
        go_wp2_with (go_at_call 8; refine (within_st _ _ _ _ (by omega) (by omega) (by omega)).mono ?_; rintro e w3 ⟨rfl, hw3⟩; subst hw3; rw [← HQ.out])
        go_region
        go_wp2
        go_roundw
        case rel =>
          have e1 := ((HO.out.set k (x := F 0) (by have := HF.out; have := this 0; omega)).congr fun i _ => fewP_up0 F k i).gr (Gr.refl _).drew
          have e2 := row_gr (HR.out.1.setOther (a := ⟨g, k, none⟩) (by show B2 ≠ g; omega) (.int .u8 (F 0))) (Gr.refl _).drew
          have e3 := row_gr (HR.out.2.setOther (a := ⟨g, k, none⟩) (by show w.heap.size + 1 ≠ g; omega) (.int .u8 (F 0))) (Gr.refl _).drew
          exact ⟨k + 1, by omega, by go_num, e1, e2, e3, (hgr.set (p := ⟨g, k, none⟩) (by show w.heap.size ≤ g; omega) _).drew⟩
        case measure => simp [intOf]; omega
      · have hz : k / 5 * 5 < N := by omega
        have d0 := hown.cellAt (i := k / 5 * 5) hz
        rw [fewP_at1] at d0
        have dk := hown.cellAt (i := k) hlt
        have fk := hown.own.frozenAt k
        have HO := hide hown
        have HR := hide (⟨hr1, hr0⟩ : _ ∧ _)
        clear hown hr1 hr0
        have k0 : 0 ≤ (k : Int) := by omega
        have k1 : (k : Int) < N := by omega
        obtain ⟨z, hz1⟩ : ∃ z, z = k / 5 * 5 := ⟨_, rfl⟩
        have hz2 : (k : Int) / 5 * 5 = z := by omega
        have hz3 : (k : Int).tdiv 5 = (k : Int) / 5 := Int.tdiv_eq_ediv_of_nonneg k0
        have hz4 : 0 ≤ (z : Int) ∧ (z : Int) < N := by omega
        have hz5 : -9223372036854775808 ≤ (k : Int) / 5 ∧ (k : Int) / 5 ≤ 1000 := by omega
        have HZ := hide hz1
        rw [← hz1] at d0 hz
        clear hz1
        go_wp2_with (go_at_call 8; refine (within_st _ _ _ _ (by omega) (by omega) (by omega)).mono ?_; rintro e w3 ⟨rfl, hw3⟩; subst hw3; rw [← HQ.out])
        go_region
        go_wp2
        go_roundw
        case rel =>
          have e0 : ∀ i, i < N → upd (fewP 1 F k) k (F z) i = fewP 1 F (k + 1) i := by rw [HZ.out]; exact fun i _ => fewP_up1 F k i
          have e1 := ((HO.out.set k (x := F z) (by have := HF.out; have := this z; omega)).congr e0).gr (Gr.refl _).drew
          have e2 := row_gr (HR.out.1.setOther (a := ⟨g, k, none⟩) (by show B2 ≠ g; omega) (.int .u8 (F z))) (Gr.refl _).drew
          have e3 := row_gr (HR.out.2.setOther (a := ⟨g, k, none⟩) (by show w.heap.size + 1 ≠ g; omega) (.int .u8 (F z))) (Gr.refl _).drew
          exact ⟨k + 1, by omega, by go_num, e1, e2, e3, (hgr.set (p := ⟨g, k, none⟩) (by show w.heap.size ≤ g; omega) _).drew⟩
        case measure => simp [intOf]; omega
      · go_wp2_with (go_at_call 8; refine (within_st _ _ _ _ (by omega) (by omega) (by omega)).mono ?_; rintro e w3 ⟨rfl, hw3⟩; subst hw3; rw [← HQ.out])
        go_roundw
        case rel => exact ⟨k + 1, by omega, by go_num, hown.congr fun i _ => fewP_up2 F k i, hr1, hr0, hgr⟩
        case measure => simp [intOf]; omega
    · have hkN : k = N := by omega
      subst hkN
      have e1 := hr0.cell (i := 0) (by omega)
      have e2 := hr0.cell (i := 1) (by omega)
      have e3 := hr0.cell (i := 2) (by omega)
      have j1 := hr0.frozen 0
      have j2 := hr0.frozen 1
      have j3 := hr0.frozen 2
      rw [tri_0] at e1
      rw [tri_1] at e2
      rw [tri_2] at e3
      clear hr0 hr1
      have HO := hide (((hown.mono (base' := w.heap.size) (by omega)).congr (f' := fewF q F) fun i hi => by unfold fewP; rw [if_pos hi]))
      clear hown
      go_wp2
      exact bodyPost_ret (v := .agg #[.int .i64 W1, .int .i64 H1, .slice (some ⟨g, 0, none⟩) k c']) (by simp [results, Tryd.results13, go_sem, e1, e2, e3]) rfl ⟨⟨g, c', k, fewF q F, W1, H1, rfl, (((HO.out.setO (p := ⟨w.heap.size + 1, 0, none⟩) (by show g ≠ w.heap.size + 1; omega) _).setO (p := ⟨w.heap.size + 1, 1, none⟩) (by show g ≠ w.heap.size + 1; omega) _).setO (p := ⟨w.heap.size + 1, 2, none⟩) (by show g ≠ w.heap.size + 1; omega) _), HM.out⟩, (by repeat (first | exact Gr.refl _ | assumption | exact Dr.gr (by assumption) | refine Gr.alloc ?_ _ | refine Gr.drewN ?_ _ | refine Gr.drew ?_ | (refine Gr.set ?_ (by first | exact Nat.le_refl _ | exact Nat.le_succ _ | (show _ ≤ _; omega) | (simp only [World.size_alloc] at *; omega)) _) | refine Gr.trans ?_ (by assumption) | refine Gr.trans ?_ (Dr.gr (by assumption))))⟩

end Go.Proofs.YtcbcekgjpcpibaaDoor
