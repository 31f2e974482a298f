/- What border's over, isBorder, isOpen, along answer, and the document's open, Over: the plain functions; nothing that was there is written. -/
import Derived.Test.YtgbadbkipaccgaaGreatBMath11
import Derived.OwnWalk
namespace Go.Proofs.YtgbadbkipaccgaaGreat
open Go.RowKit
set_option maxRecDepth 20000

theorem sector_any (a b c : Int) (w : World) :
    Calls Tryz.prog 24 #[.int .i64 a, .int .i64 b, .int .i64 c] w fun e w' => e = .returned (.int .i64 (secF a b c)) ∧ Dr w w' := by
  cases h : isCellB a b c
  · rw [secF_no h]; exact sector_no a b c w h
  · rw [secF_yes h]; exact sector_yes a b c w h
theorem rsector_any (a b c : Int) (w : World) :
    Calls Tryz.prog 45 #[.int .i64 a, .int .i64 b, .int .i64 c] w fun e w' => e = .returned (.int .i64 (secF a b c)) ∧ Dr w w' := by
  cases h : isCellB a b c
  · rw [secF_no h]; exact rsector_no a b c w h
  · rw [secF_yes h]; exact rsector_yes a b c w h

set_option maxHeartbeats 1000000 in
theorem over_any (a b c s : Int) (w : World) :
    Calls Tryz.prog 96 #[.int .i64 a, .int .i64 b, .int .i64 c, .int .i64 s] w fun e w' => e = .returned (.int .i64 (overF a b c s)) ∧ Dr w w' := by
  cases hd : (secF a b (stepF a b c s) == secF a b c)
  · have H : Hid (stepF a b c s = overF a b c s) := hide (by rw [over_eq, hd, if_neg (by simp)])
    go_enter Tryz.func96, Tryz.ntmps96
    go_wp2_with (first | (go_at_call 37; refine (step_any _ _ _ _ _).mono ?_; rintro e w' ⟨rfl, hd'⟩) | (go_at_call 24; refine (sector_any _ _ _ _).mono ?_; rintro e w' ⟨rfl, hd'⟩))
    go_ret
    exact ⟨ret_int H.out, by repeat (first | exact Dr.refl _ | assumption | refine Dr.add ?_ | refine Dr.trans ?_ (by assumption))⟩
  · have H : Hid (-1 = overF a b c s) := hide (by rw [over_eq, hd, if_pos rfl])
    go_enter Tryz.func96, Tryz.ntmps96
    go_wp2_with (first | (go_at_call 37; refine (step_any _ _ _ _ _).mono ?_; rintro e w' ⟨rfl, hd'⟩) | (go_at_call 24; refine (sector_any _ _ _ _).mono ?_; rintro e w' ⟨rfl, hd'⟩))
    go_ret
    exact ⟨ret_int H.out, by repeat (first | exact Dr.refl _ | assumption | refine Dr.add ?_ | refine Dr.trans ?_ (by assumption))⟩

set_option maxHeartbeats 1000000 in
theorem isBorder_any (a b c : Int) (w : World) :
    Calls Tryz.prog 89 #[.int .i64 a, .int .i64 b, .int .i64 c] w fun e w' => e = .returned (.bool (brdB a b c)) ∧ Dr w w' := by
  go_enter Tryz.func89, Tryz.ntmps89
  go_wp2
  go_loopw [7] (fun i u => ∃ k : Nat, k ≤ 4 ∧ i = .int .i64 k ∧ (∀ j : Nat, j < k → ¬ 0 ≤ overF a b c j) ∧ Dr w u) (fun i _ => 4 - (intOf i).toNat)
  case atStart => exact ⟨0, by omega, rfl, by omega, Dr.refl _⟩
  case round =>
    obtain ⟨k, hk, rfl, hall, hD⟩ := hrel
    have HA : Hid (∀ j : Nat, j < k → ¬ 0 ≤ overF a b c j) := hall
    clear hall
    by_cases h4 : k < 4
    · have k3 : (k : Int) ≤ 3 := by omega
      by_cases he : 0 ≤ overF a b c k
      · have H : Hid (true = brdB a b c) := hide (brdB_some k (by omega) he).symm
        go_wp2_with (go_at_call 96; refine (over_any _ _ _ _ _).mono ?_; rintro e w' ⟨rfl, hd⟩)
        go_ret
        exact ⟨ret_bool H.out, by repeat (first | exact Dr.refl _ | assumption | refine Dr.add ?_ | refine Dr.trans ?_ (by assumption))⟩
      · go_wp2_with (go_at_call 96; refine (over_any _ _ _ _ _).mono ?_; rintro e w' ⟨rfl, hd⟩)
        go_roundw
        case rel =>
          refine ⟨k + 1, by omega, by go_num, ?_, by repeat (first | exact Dr.refl _ | assumption | refine Dr.add ?_ | refine Dr.trans ?_ (by assumption))⟩
          intro j hj
          by_cases e : j = k
          · subst e; omega
          · have := HA.out j (by omega); omega
        case measure => simp [intOf]; omega
    · have hk4 : k = 4 := by omega
      subst hk4
      have H : Hid (false = brdB a b c) := hide (brdB_none HA.out).symm
      go_wp2
      go_ret
      exact ⟨ret_bool H.out, by repeat (first | exact Dr.refl _ | assumption | refine Dr.add ?_ | refine Dr.trans ?_ (by assumption))⟩

theorem op_cost {N : Nat} {f : Nat → Int} (hf : ∀ i, i < N → f i ≠ 0) (x : Int) : opB N f x = (decide (gatF N f x ≠ 0) && decide (gatF N f x ≠ 255)) := by
  rw [Bool.eq_iff_iff, opB_iff, Bool.and_eq_true_iff, decide_eq_true_eq, decide_eq_true_eq]
  unfold gatF
  by_cases h : 0 ≤ x ∧ x < N
  · rw [if_pos h]
    exact ⟨fun q => ⟨hf _ (by omega), q.2.2⟩, fun q => ⟨h.1, h.2, q.2⟩⟩
  · rw [if_neg h]
    exact ⟨fun q => absurd ⟨q.1, q.2.1⟩ h, fun q => absurd rfl q.1⟩

set_option maxHeartbeats 1000000 in
theorem bisOpen_any {w : World} {p c v : Nat} {W H : Int} {N cc : Nat} {f : Nat → Int} {ep : Int} {ver : Nat → Int} (h : Gd w p c v W H N cc f ep ver) (x : Int) :
    Calls Tryz.prog 80 #[.pointer (some ⟨p, 0, none⟩), .int .i64 x] w fun e w' => e = .returned (.bool (opB N f x)) ∧ Dr w w' := by
  have E := op_cost (fun i hi => ((mayM_iff _ _ _ _).1 h.may).2.2 i hi) x
  obtain ⟨z, hz⟩ : ∃ z, gatF N f x = z := ⟨_, rfl⟩
  rw [hz] at E
  have HE := hide E
  have HG := hide h
  have HZ := hide hz
  clear E h hz
  by_cases h0 : z = 0
  · subst h0
    go_enter Tryz.func80, Tryz.ntmps80
    go_wp2_with (go_at_call 38; refine (gcost_dr HG.out _).mono ?_; rintro e w1 ⟨rfl, hg1⟩; rw [HZ.out])
    go_ret
    exact ⟨ret_bool (by rw [HE.out]; simp), by repeat (first | exact Dr.refl _ | assumption | refine Dr.add ?_ | refine Dr.trans ?_ (by assumption))⟩
  · by_cases h1 : z = 255
    · subst h1
      go_enter Tryz.func80, Tryz.ntmps80
      go_wp2_with (go_at_call 38; refine (gcost_dr HG.out _).mono ?_; rintro e w1 ⟨rfl, hg1⟩; rw [HZ.out])
      go_ret
      exact ⟨ret_bool (by rw [HE.out]; simp), by repeat (first | exact Dr.refl _ | assumption | refine Dr.add ?_ | refine Dr.trans ?_ (by assumption))⟩
    · have g0 : (z != 0) = true := by simp [h0]
      have g1 : (z != 255) = true := by simp [h1]
      have HT : Hid (true = opB N f x) := hide (by rw [HE.out]; simp [h0, h1])
      clear h0 h1
      go_enter Tryz.func80, Tryz.ntmps80
      go_wp2_with (go_at_call 38; refine (gcost_dr HG.out _).mono ?_; rintro e w1 ⟨rfl, hg1⟩; rw [HZ.out])
      go_ret
      exact ⟨ret_bool HT.out, by repeat (first | exact Dr.refl _ | assumption | refine Dr.add ?_ | refine Dr.trans ?_ (by assumption))⟩

set_option maxHeartbeats 1000000 in
theorem rover_any (a b c s : Int) (w : World) :
    Calls Tryz.prog 49 #[.int .i64 a, .int .i64 b, .int .i64 c, .int .i64 s] w fun e w' => e = .returned (.int .i64 (overF a b c s)) ∧ Dr w w' := by
  by_cases hr : s < 0 ∨ 3 < s
  · have H : Hid (-1 = overF a b c s) := hide (over_other a b c s hr).symm
    go_enter Tryz.func49, Tryz.ntmps49
    go_wp2_with (go_at_call 73; refine (in_no _ _ _ _ (by omega)).mono ?_; rintro e w' ⟨rfl, hd⟩)
    go_ret
    exact ⟨ret_int H.out, by repeat (first | exact Dr.refl _ | assumption | refine Dr.add ?_ | refine Dr.trans ?_ (by assumption))⟩
  · have r0 : 0 ≤ s := by omega
    have r1 : s ≤ 3 := by omega
    clear hr
    have hE := over_eq a b c s
    have hI := step_is a b c s
    by_cases hn : stepF a b c s < 0
    · have hn1 : stepF a b c s = -1 := by
        rcases hI with ⟨_, q⟩ | q
        · have := ((isCellB_iff _ _ _).1 q).2.1; omega
        · exact q
      have H : Hid (-1 = overF a b c s) := hide (by rw [hE, hn1]; split <;> rfl)
      have HN := hide hn1
      clear hE hI hn1 hn
      go_enter Tryz.func49, Tryz.ntmps49
      go_wp2_with (first | (go_at_call 73; refine (in_yes _ _ _ _ (by omega) (by omega)).mono ?_; rintro e w' ⟨rfl, hd⟩) | (go_at_call 72; refine (rstep_any _ _ _ _ _).mono ?_; rintro e w' ⟨rfl, hd⟩; rw [HN.out]))
      go_ret
      exact ⟨ret_int H.out, by repeat (first | exact Dr.refl _ | assumption | refine Dr.add ?_ | refine Dr.trans ?_ (by assumption))⟩
    · clear hI
      cases hd0 : (secF a b (stepF a b c s) == secF a b c)
      · have H : Hid (stepF a b c s = overF a b c s) := hide (by rw [hE, hd0, if_neg (by simp)])
        clear hE
        go_enter Tryz.func49, Tryz.ntmps49
        go_wp2_with (first | (go_at_call 73; refine (in_yes _ _ _ _ (by omega) (by omega)).mono ?_; rintro e w' ⟨rfl, hd⟩) | (go_at_call 72; refine (rstep_any _ _ _ _ _).mono ?_; rintro e w' ⟨rfl, hd⟩) | (go_at_call 45; refine (rsector_any _ _ _ _).mono ?_; rintro e w' ⟨rfl, hd⟩))
        go_ret
        exact ⟨ret_int H.out, by repeat (first | exact Dr.refl _ | assumption | refine Dr.add ?_ | refine Dr.trans ?_ (by assumption))⟩
      · have H : Hid (-1 = overF a b c s) := hide (by rw [hE, hd0, if_pos rfl])
        clear hE
        go_enter Tryz.func49, Tryz.ntmps49
        go_wp2_with (first | (go_at_call 73; refine (in_yes _ _ _ _ (by omega) (by omega)).mono ?_; rintro e w' ⟨rfl, hd⟩) | (go_at_call 72; refine (rstep_any _ _ _ _ _).mono ?_; rintro e w' ⟨rfl, hd⟩) | (go_at_call 45; refine (rsector_any _ _ _ _).mono ?_; rintro e w' ⟨rfl, hd⟩))
        go_ret
        exact ⟨ret_int H.out, by repeat (first | exact Dr.refl _ | assumption | refine Dr.add ?_ | refine Dr.trans ?_ (by assumption))⟩

set_option maxHeartbeats 1000000 in
theorem ropen_any (W H : Int) (a : Option Addr) (n cap : Nat) (f : Nat → Int) (x : Int) (w : World) (h : Sl w a n f) :
    Calls Tryz.prog 43 #[.agg #[.int .i64 W, .int .i64 H, .slice a n cap], .int .i64 x] w fun e w' => e = .returned (.bool (opB n f x)) ∧ Gr w w' := by
  by_cases h0 : 0 ≤ x
  · by_cases h1 : x < n
    · obtain ⟨k, rfl⟩ : ∃ k : Nat, x = k := ⟨x.toNat, by omega⟩
      have hk : k < n := by omega
      obtain ⟨b, o, rfl, hB, hc⟩ := h.at (by omega)
      have ck : ∀ v t, (w.alloc (.cells #[.int .i64 W, .int .i64 H, v] t)).cell? ⟨b, o + k, none⟩ = some (.int .u8 (f k)) := fun v t => cell_gr (hc k hk) ((Gr.refl w).alloc _)
      have E : opB n f k = decide (f k ≠ 255) := by
        rw [Bool.eq_iff_iff, opB_iff, decide_eq_true_eq, Int.toNat_natCast]
        exact ⟨fun q => q.2.2, fun q => ⟨h0, h1, q⟩⟩
      have HE := hide E
      clear hc E h
      generalize f k = z at *
      by_cases hz : z = 255
      · subst hz
        go_enter Tryz.func43, Tryz.ntmps43
        go_wp2
        go_ret
        exact ⟨ret_bool (by rw [HE.out]; simp), (by repeat (first | exact Gr.refl _ | assumption | exact Dr.gr (by assumption) | refine Gr.alloc ?_ _ | refine Gr.drewN ?_ _ | refine Gr.drew ?_ | refine Gr.trans ?_ (by assumption) | refine Gr.trans ?_ (Dr.gr (by assumption))))⟩
      · have hz' : (z != 255) = true := by simp [hz]
        have HT : Hid (true = opB n f k) := hide (by rw [HE.out]; simp [hz])
        clear hz
        go_enter Tryz.func43, Tryz.ntmps43
        go_wp2
        go_ret
        exact ⟨ret_bool HT.out, (by repeat (first | exact Gr.refl _ | assumption | exact Dr.gr (by assumption) | refine Gr.alloc ?_ _ | refine Gr.drewN ?_ _ | refine Gr.drew ?_ | refine Gr.trans ?_ (by assumption) | refine Gr.trans ?_ (Dr.gr (by assumption))))⟩
    · have E : Hid (false = opB n f x) := hide (by symm; cases e : opB n f x; rfl; have := ((opB_iff _ _ _).1 e).2.1; omega)
      go_enter Tryz.func43, Tryz.ntmps43
      go_wp2
      go_ret
      exact ⟨ret_bool E.out, (by repeat (first | exact Gr.refl _ | assumption | exact Dr.gr (by assumption) | refine Gr.alloc ?_ _ | refine Gr.drewN ?_ _ | refine Gr.drew ?_ | refine Gr.trans ?_ (by assumption) | refine Gr.trans ?_ (Dr.gr (by assumption))))⟩
  · have E : Hid (false = opB n f x) := hide (by symm; exact opB_neg _ _ _ (by omega))
    go_enter Tryz.func43, Tryz.ntmps43
    go_wp2
    go_ret
    exact ⟨ret_bool E.out, (by repeat (first | exact Gr.refl _ | assumption | exact Dr.gr (by assumption) | refine Gr.alloc ?_ _ | refine Gr.drewN ?_ _ | refine Gr.drew ?_ | refine Gr.trans ?_ (by assumption) | refine Gr.trans ?_ (Dr.gr (by assumption))))⟩
end Go.Proofs.YtgbadbkipaccgaaGreat
