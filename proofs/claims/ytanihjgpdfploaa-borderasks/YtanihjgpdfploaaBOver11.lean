/- What border's over, isBorder, isOpen, along answer, and the document's open, Over: the plain functions; nothing that was there is written. -/
import Derived.Test.YtanihjgpdfploaaBMath11
import Derived.OwnWalk
namespace Go.Proofs.Ytanihjgpdfploaa
open Go.RowKit
set_option maxRecDepth 20000

theorem sector_any (a b c : Int) (w : World) :
    Calls Try.prog 26 #[.int .i64 a, .int .i64 b, .int .i64 c] w fun e w' => e = .returned (.int .i64 (secF a b c)) ∧ Dr w w' := by
  cases h : isCellB a b c
  · rw [secF_no h]; exact sector_no a b c w h
  · rw [secF_yes h]; exact sector_yes a b c w h
theorem rsector_any (a b c : Int) (w : World) :
    Calls Try.prog 56 #[.int .i64 a, .int .i64 b, .int .i64 c] w fun e w' => e = .returned (.int .i64 (secF a b c)) ∧ Dr w w' := by
  cases h : isCellB a b c
  · rw [secF_no h]; exact rsector_no a b c w h
  · rw [secF_yes h]; exact rsector_yes a b c w h

set_option maxHeartbeats 1000000 in
theorem over_any (a b c s : Int) (w : World) :
    Calls Try.prog 45 #[.int .i64 a, .int .i64 b, .int .i64 c, .int .i64 s] w fun e w' => e = .returned (.int .i64 (overF a b c s)) ∧ Dr w w' := by
  cases hd : (secF a b (stepF a b c s) == secF a b c)
  · have H : Hid (stepF a b c s = overF a b c s) := hide (by rw [over_eq, hd, if_neg (by simp)])
    go_enter Try.func45, Try.ntmps45
    go_wp2_with (first | (go_at_call 50; refine (step_any _ _ _ _ _).mono ?_; rintro e w' ⟨rfl, hd'⟩) | (go_at_call 26; refine (sector_any _ _ _ _).mono ?_; rintro e w' ⟨rfl, hd'⟩))
    go_ret
    exact ⟨ret_int H.out, by repeat (first | exact Dr.refl _ | assumption | refine Dr.add ?_ | refine Dr.trans ?_ (by assumption))⟩
  · have H : Hid (-1 = overF a b c s) := hide (by rw [over_eq, hd, if_pos rfl])
    go_enter Try.func45, Try.ntmps45
    go_wp2_with (first | (go_at_call 50; refine (step_any _ _ _ _ _).mono ?_; rintro e w' ⟨rfl, hd'⟩) | (go_at_call 26; refine (sector_any _ _ _ _).mono ?_; rintro e w' ⟨rfl, hd'⟩))
    go_ret
    exact ⟨ret_int H.out, by repeat (first | exact Dr.refl _ | assumption | refine Dr.add ?_ | refine Dr.trans ?_ (by assumption))⟩

set_option maxHeartbeats 1000000 in
theorem isBorder_any (a b c : Int) (w : World) :
    Calls Try.prog 39 #[.int .i64 a, .int .i64 b, .int .i64 c] w fun e w' => e = .returned (.bool (brdB a b c)) ∧ Dr w w' := by
  go_enter Try.func39, Try.ntmps39
  go_wp2
  go_loopw [7] (fun i u => ∃ k : Nat, k ≤ 4 ∧ i = .int .i64 k ∧ (∀ j : Nat, j < k → ¬ 0 ≤ overF a b c j) ∧ Dr w u) (fun i _ => 4 - (intOf i).toNat)
  case atStart => exact ⟨0, by omega, rfl, by omega, Dr.refl _⟩
  case round =>
    obtain ⟨k, hk, rfl, hall, hD⟩ := hrel
    have HA : Hid (∀ j : Nat, j < k → ¬ 0 ≤ overF a b c j) := hall
    clear hall
    by_cases h4 : k < 4
    · have k3 : (k : Int) ≤ 3 := by omega
      by_cases he : 0 ≤ overF a b c k
      · have H : Hid (true = brdB a b c) := hide (brdB_some k (by omega) he).symm
        go_wp2_with (go_at_call 45; refine (over_any _ _ _ _ _).mono ?_; rintro e w' ⟨rfl, hd⟩)
        go_ret
        exact ⟨ret_bool H.out, by repeat (first | exact Dr.refl _ | assumption | refine Dr.add ?_ | refine Dr.trans ?_ (by assumption))⟩
      · go_wp2_with (go_at_call 45; refine (over_any _ _ _ _ _).mono ?_; rintro e w' ⟨rfl, hd⟩)
        go_roundw
        case rel =>
          refine ⟨k + 1, by omega, by go_num, ?_, by repeat (first | exact Dr.refl _ | assumption | refine Dr.add ?_ | refine Dr.trans ?_ (by assumption))⟩
          intro j hj
          by_cases e : j = k
          · subst e; omega
          · have := HA.out j (by omega); omega
        case measure => simp [intOf]; omega
    · have hk4 : k = 4 := by omega
      subst hk4
      have H : Hid (false = brdB a b c) := hide (brdB_none HA.out).symm
      go_wp2
      go_ret
      exact ⟨ret_bool H.out, by repeat (first | exact Dr.refl _ | assumption | refine Dr.add ?_ | refine Dr.trans ?_ (by assumption))⟩

theorem op_cost {N : Nat} {f : Nat → Int} (hf : ∀ i, i < N → f i ≠ 0) (x : Int) : opB N f x = (decide (gatF N f x ≠ 0) && decide (gatF N f x ≠ 255)) := by
  rw [Bool.eq_iff_iff, opB_iff, Bool.and_eq_true_iff, decide_eq_true_eq, decide_eq_true_eq]
  unfold gatF
  by_cases h : 0 ≤ x ∧ x < N
  · rw [if_pos h]
    exact ⟨fun q => ⟨hf _ (by omega), q.2.2⟩, fun q => ⟨h.1, h.2, q.2⟩⟩
  · rw [if_neg h]
    exact ⟨fun q => absurd ⟨q.1, q.2.1⟩ h, fun q => absurd rfl q.1⟩

set_option maxHeartbeats 1000000 in
theorem isOpen_any {w : World} {p c v : Nat} {W H : Int} {N cc : Nat} {f : Nat → Int} {ep : Int} {ver : Nat → Int} (h : Gd w p c v W H N cc f ep ver) (x : Int) :
    Calls Try.prog 43 #[.pointer (some ⟨p, 0, none⟩), .int .i64 x] w fun e w' => e = .returned (.bool (opB N f x)) ∧ Dr w w' := by
  have E := op_cost (fun i hi => ((mayM_iff _ _ _ _).1 h.may).2.2 i hi) x
  obtain ⟨z, hz⟩ : ∃ z, gatF N f x = z := ⟨_, rfl⟩
  rw [hz] at E
  have HE := hide E
  have HG := hide h
  have HZ := hide hz
  clear E h hz
  by_cases h0 : z = 0
  · subst h0
    go_enter Try.func43, Try.ntmps43
    go_wp2_with (go_at_call 46; refine (gcost_dr HG.out _).mono ?_; rintro e w1 ⟨rfl, hg1⟩; rw [HZ.out])
    go_ret
    exact ⟨ret_bool (by rw [HE.out]; simp), by repeat (first | exact Dr.refl _ | assumption | refine Dr.add ?_ | refine Dr.trans ?_ (by assumption))⟩
  · by_cases h1 : z = 255
    · subst h1
      go_enter Try.func43, Try.ntmps43
      go_wp2_with (go_at_call 46; refine (gcost_dr HG.out _).mono ?_; rintro e w1 ⟨rfl, hg1⟩; rw [HZ.out])
      go_ret
      exact ⟨ret_bool (by rw [HE.out]; simp), by repeat (first | exact Dr.refl _ | assumption | refine Dr.add ?_ | refine Dr.trans ?_ (by assumption))⟩
    · have g0 : (z != 0) = true := by simp [h0]
      have g1 : (z != 255) = true := by simp [h1]
      have HT : Hid (true = opB N f x) := hide (by rw [HE.out]; simp [h0, h1])
      clear h0 h1
      go_enter Try.func43, Try.ntmps43
      go_wp2_with (go_at_call 46; refine (gcost_dr HG.out _).mono ?_; rintro e w1 ⟨rfl, hg1⟩; rw [HZ.out])
      go_ret
      exact ⟨ret_bool HT.out, by repeat (first | exact Dr.refl _ | assumption | refine Dr.add ?_ | refine Dr.trans ?_ (by assumption))⟩

set_option maxHeartbeats 1000000 in
theorem along_yes (a b s side : Int) (w : World) (hs : isSectorB a b s = true) (h0 : 0 ≤ side) (h3 : side ≤ 3) :
    Calls Try.prog 44 #[.int .i64 a, .int .i64 b, .int .i64 s, .int .i64 side] w fun e w' => e = .returned (.tuple #[.int .i64 (fstF a b s side), .int .i64 (aptF a s side), .int .i64 (lngF a b s side)]) ∧ Dr w w' := by
  obtain ⟨u1, u2, u3, u4, -, -⟩ := size_bd hs
  have HS := hide (fun u => size_yes a b s u hs)
  have HF : Hid (∀ x, fstF a b s x = if x = 1 then twF a s - 1 else if x = 2 then (thF a b s - 1) * twF a s else 0) := hide fun _ => rfl
  have HA : Hid (∀ x, aptF a s x = if x = 0 ∨ x = 2 then 1 else twF a s) := hide fun _ => rfl
  have HL : Hid (∀ x, lngF a b s x = if x = 0 ∨ x = 2 then twF a s else thF a b s) := hide fun _ => rfl
  rw [HF.out side, HA.out side, HL.out side]
  clear HF HA HL hs
  generalize twF a s = tw at *
  generalize thF a b s = th at *
  have mb := mul_bd (w := th - 1) (h := tw) (W := 16) (H := 16) (by omega) (by omega) (by omega) (by omega)
  rcases (by omega : side = 0 ∨ side = 1 ∨ side = 2 ∨ side = 3) with rfl | rfl | rfl | rfl
  all_goals
    go_enter Try.func44, Try.ntmps44
    go_wp2_with (go_at_call 37; refine (HS.out _).mono ?_; rintro e w' ⟨rfl, hd⟩)
    go_ret3
    exact ⟨by simp, by repeat (first | exact Dr.refl _ | assumption | refine Dr.add ?_ | refine Dr.trans ?_ (by assumption))⟩

set_option maxHeartbeats 1000000 in
theorem along_no (a b s side : Int) (w : World) (hs : isSectorB a b s = false ∨ side < 0 ∨ 3 < side) :
    Calls Try.prog 44 #[.int .i64 a, .int .i64 b, .int .i64 s, .int .i64 side] w fun e w' => (∃ x y, e = .returned (.tuple #[.int .i64 x, .int .i64 y, .int .i64 0])) ∧ Dr w w' := by
  by_cases hr : side < 0 ∨ 3 < side
  · clear hs
    have e0 : (side == 0) = false := by simp; omega
    have e1 : (side == 1) = false := by simp; omega
    have e2 : (side == 2) = false := by simp; omega
    have e3 : (side == 3) = false := by simp; omega
    clear hr
    cases hq : isSectorB a b s
    · go_enter Try.func44, Try.ntmps44
      go_wp2_with (go_at_call 37; refine (size_no _ _ _ _ hq).mono ?_; rintro e w' ⟨rfl, hd⟩)
      go_ret3
      exact ⟨⟨0, 0, rfl⟩, by repeat (first | exact Dr.refl _ | assumption | refine Dr.add ?_ | refine Dr.trans ?_ (by assumption))⟩
    · go_enter Try.func44, Try.ntmps44
      go_wp2_with (go_at_call 37; refine (size_yes _ _ _ _ hq).mono ?_; rintro e w' ⟨rfl, hd⟩)
      go_ret3
      exact ⟨⟨0, 0, rfl⟩, by repeat (first | exact Dr.refl _ | assumption | refine Dr.add ?_ | refine Dr.trans ?_ (by assumption))⟩
  · have hq : isSectorB a b s = false := by
      rcases hs with h | h
      · exact h
      · exact absurd h hr
    clear hs
    rcases (by omega : side = 0 ∨ side = 1 ∨ side = 2 ∨ side = 3) with rfl | rfl | rfl | rfl
    all_goals
      go_enter Try.func44, Try.ntmps44
      go_wp2_with (go_at_call 37; refine (size_no _ _ _ _ hq).mono ?_; rintro e w' ⟨rfl, hd⟩)
      go_ret3
      exact ⟨⟨_, _, rfl⟩, by repeat (first | exact Dr.refl _ | assumption | refine Dr.add ?_ | refine Dr.trans ?_ (by assumption))⟩

set_option maxHeartbeats 1000000 in
theorem rover_any (a b c s : Int) (w : World) :
    Calls Try.prog 36 #[.int .i64 a, .int .i64 b, .int .i64 c, .int .i64 s] w fun e w' => e = .returned (.int .i64 (overF a b c s)) ∧ Dr w w' := by
  by_cases hr : s < 0 ∨ 3 < s
  · have H : Hid (-1 = overF a b c s) := hide (over_other a b c s hr).symm
    go_enter Try.func36, Try.ntmps36
    go_wp2_with (go_at_call 34; refine (in_no _ _ _ _ (by omega)).mono ?_; rintro e w' ⟨rfl, hd⟩)
    go_ret
    exact ⟨ret_int H.out, by repeat (first | exact Dr.refl _ | assumption | refine Dr.add ?_ | refine Dr.trans ?_ (by assumption))⟩
  · have r0 : 0 ≤ s := by omega
    have r1 : s ≤ 3 := by omega
    clear hr
    have hE := over_eq a b c s
    have hI := step_is a b c s
    by_cases hn : stepF a b c s < 0
    · have hn1 : stepF a b c s = -1 := by
        rcases hI with ⟨_, q⟩ | q
        · have := ((isCellB_iff _ _ _).1 q).2.1; omega
        · exact q
      have H : Hid (-1 = overF a b c s) := hide (by rw [hE, hn1]; split <;> rfl)
      have HN := hide hn1
      clear hE hI hn1 hn
      go_enter Try.func36, Try.ntmps36
      go_wp2_with (first | (go_at_call 34; refine (in_yes _ _ _ _ (by omega) (by omega)).mono ?_; rintro e w' ⟨rfl, hd⟩) | (go_at_call 55; refine (rstep_any _ _ _ _ _).mono ?_; rintro e w' ⟨rfl, hd⟩; rw [HN.out]))
      go_ret
      exact ⟨ret_int H.out, by repeat (first | exact Dr.refl _ | assumption | refine Dr.add ?_ | refine Dr.trans ?_ (by assumption))⟩
    · clear hI
      cases hd0 : (secF a b (stepF a b c s) == secF a b c)
      · have H : Hid (stepF a b c s = overF a b c s) := hide (by rw [hE, hd0, if_neg (by simp)])
        clear hE
        go_enter Try.func36, Try.ntmps36
        go_wp2_with (first | (go_at_call 34; refine (in_yes _ _ _ _ (by omega) (by omega)).mono ?_; rintro e w' ⟨rfl, hd⟩) | (go_at_call 55; refine (rstep_any _ _ _ _ _).mono ?_; rintro e w' ⟨rfl, hd⟩) | (go_at_call 56; refine (rsector_any _ _ _ _).mono ?_; rintro e w' ⟨rfl, hd⟩))
        go_ret
        exact ⟨ret_int H.out, by repeat (first | exact Dr.refl _ | assumption | refine Dr.add ?_ | refine Dr.trans ?_ (by assumption))⟩
      · have H : Hid (-1 = overF a b c s) := hide (by rw [hE, hd0, if_pos rfl])
        clear hE
        go_enter Try.func36, Try.ntmps36
        go_wp2_with (first | (go_at_call 34; refine (in_yes _ _ _ _ (by omega) (by omega)).mono ?_; rintro e w' ⟨rfl, hd⟩) | (go_at_call 55; refine (rstep_any _ _ _ _ _).mono ?_; rintro e w' ⟨rfl, hd⟩) | (go_at_call 56; refine (rsector_any _ _ _ _).mono ?_; rintro e w' ⟨rfl, hd⟩))
        go_ret
        exact ⟨ret_int H.out, by repeat (first | exact Dr.refl _ | assumption | refine Dr.add ?_ | refine Dr.trans ?_ (by assumption))⟩

set_option maxHeartbeats 1000000 in
theorem ropen_any (W H : Int) (a : Option Addr) (n cap : Nat) (f : Nat → Int) (x : Int) (w : World) (h : Sl w a n f) :
    Calls Try.prog 35 #[.agg #[.int .i64 W, .int .i64 H, .slice a n cap], .int .i64 x] w fun e w' => e = .returned (.bool (opB n f x)) ∧ Gr w w' := by
  by_cases h0 : 0 ≤ x
  · by_cases h1 : x < n
    · obtain ⟨k, rfl⟩ : ∃ k : Nat, x = k := ⟨x.toNat, by omega⟩
      have hk : k < n := by omega
      obtain ⟨b, o, rfl, hB, hc⟩ := h.at (by omega)
      have ck : ∀ v t, (w.alloc (.cells #[.int .i64 W, .int .i64 H, v] t)).cell? ⟨b, o + k, none⟩ = some (.int .u8 (f k)) := fun v t => cell_gr (hc k hk) ((Gr.refl w).alloc _)
      have E : opB n f k = decide (f k ≠ 255) := by
        rw [Bool.eq_iff_iff, opB_iff, decide_eq_true_eq, Int.toNat_natCast]
        exact ⟨fun q => q.2.2, fun q => ⟨h0, h1, q⟩⟩
      have HE := hide E
      clear hc E h
      generalize f k = z at *
      by_cases hz : z = 255
      · subst hz
        go_enter Try.func35, Try.ntmps35
        go_wp2
        go_ret
        exact ⟨ret_bool (by rw [HE.out]; simp), (by repeat (first | exact Gr.refl _ | assumption | exact Dr.gr (by assumption) | refine Gr.alloc ?_ _ | refine Gr.drewN ?_ _ | refine Gr.drew ?_ | refine Gr.trans ?_ (by assumption) | refine Gr.trans ?_ (Dr.gr (by assumption))))⟩
      · have hz' : (z != 255) = true := by simp [hz]
        have HT : Hid (true = opB n f k) := hide (by rw [HE.out]; simp [hz])
        clear hz
        go_enter Try.func35, Try.ntmps35
        go_wp2
        go_ret
        exact ⟨ret_bool HT.out, (by repeat (first | exact Gr.refl _ | assumption | exact Dr.gr (by assumption) | refine Gr.alloc ?_ _ | refine Gr.drewN ?_ _ | refine Gr.drew ?_ | refine Gr.trans ?_ (by assumption) | refine Gr.trans ?_ (Dr.gr (by assumption))))⟩
    · have E : Hid (false = opB n f x) := hide (by symm; cases e : opB n f x; rfl; have := ((opB_iff _ _ _).1 e).2.1; omega)
      go_enter Try.func35, Try.ntmps35
      go_wp2
      go_ret
      exact ⟨ret_bool E.out, (by repeat (first | exact Gr.refl _ | assumption | exact Dr.gr (by assumption) | refine Gr.alloc ?_ _ | refine Gr.drewN ?_ _ | refine Gr.drew ?_ | refine Gr.trans ?_ (by assumption) | refine Gr.trans ?_ (Dr.gr (by assumption))))⟩
  · have E : Hid (false = opB n f x) := hide (by symm; exact opB_neg _ _ _ (by omega))
    go_enter Try.func35, Try.ntmps35
    go_wp2
    go_ret
    exact ⟨ret_bool E.out, (by repeat (first | exact Gr.refl _ | assumption | exact Dr.gr (by assumption) | refine Gr.alloc ?_ _ | refine Gr.drewN ?_ _ | refine Gr.drew ?_ | refine Gr.trans ?_ (by assumption) | refine Gr.trans ?_ (Dr.gr (by assumption))))⟩
end Go.Proofs.Ytanihjgpdfploaa
