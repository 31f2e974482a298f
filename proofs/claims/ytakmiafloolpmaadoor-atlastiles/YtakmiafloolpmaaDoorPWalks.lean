/- What pack.runLength and pack.countRuns answer. -/
import Derived.Test.YtakmiafloolpmaaDoorPMath
namespace Go.Proofs.YtakmiafloolpmaaDoor
open Go.RowKit
set_option maxRecDepth 20000

set_option maxHeartbeats 1000000 in
theorem runLength_any (a : Option Addr) (n cap : Nat) (f : Nat → Int) (w : World) (h : Sl w a n f) (h0 : 0 < n) (hn : n ≤ maxLen) :
    Calls Tryd.prog 61 #[.slice a n cap] w fun e w' => e = .returned (.int .i64 (runF n f 0)) ∧ Gr w w' := by
  unfold maxLen at hn
  obtain ⟨b, o, rfl, hB, hc⟩ := h.at h0
  have c0 := hc 0 h0
  rw [Nat.add_zero] at c0
  have HC := hide hc
  clear hc
  go_enter Tryd.func61, Tryd.ntmps61
  go_wp2_with fail
  go_loopw [3] (fun i u => ∃ k : Nat, k ≤ n ∧ i = .int .i64 k ∧ (∀ j, j < k → f (0 + j) = f 0) ∧ Gr w u) (fun i _ => n - (intOf i).toNat)
  case atStart => exact ⟨0, Nat.zero_le _, rfl, fun j hj => absurd hj (Nat.not_lt_zero _), Gr.refl _⟩
  case round =>
    obtain ⟨k, hk, rfl, hall, hgr⟩ := hrel
    have HA := hide hall
    clear hall
    replace c0 := cell_gr c0 hgr
    by_cases hlt : k < n
    · have hck := cell_gr (HC.out k hlt) hgr
      by_cases hx : f k = f 0
      · have HX := hide hx
        have hx' : (f k == f 0) = true := by simp [hx]
        clear hx
        go_wp2
        go_region_held3 (fun u => u.cell? ⟨b, o + k, none⟩ = some (.int .u8 (f k)) ∧ u.cell? ⟨b, o, none⟩ = some (.int .u8 (f 0)) ∧ Gr w u) (exact ⟨hck, c0, hgr.drew⟩) (fail)
        go_wp2
        go_roundw
        case rel =>
          refine ⟨k + 1, by omega, by go_num, fun j hj => ?_, (by repeat (first | exact Gr.refl _ | assumption | exact Dr.gr (by assumption) | refine Gr.alloc ?_ _ | refine Gr.drewN ?_ _ | refine Gr.drew ?_ | refine Gr.trans ?_ (by assumption) | refine Gr.trans ?_ (Dr.gr (by assumption))))⟩
          by_cases e : j = k
          · rw [e, Nat.zero_add]; exact HX.out
          · exact HA.out j (by omega)
        case measure => simp [intOf]; omega
      · have E : Hid (runF n f 0 = k) := hide (runF_eq (by omega) HA.out (fun _ => by rw [Nat.zero_add]; exact hx))
        have hx' : (f k == f 0) = false := by simp [hx]
        clear hx
        go_wp2
        go_region_held3 (fun u => u.cell? ⟨b, o + k, none⟩ = some (.int .u8 (f k)) ∧ u.cell? ⟨b, o, none⟩ = some (.int .u8 (f 0)) ∧ Gr w u) (exact ⟨hck, c0, hgr.drew⟩) (fail)
        go_wp2
        go_ret
        exact ⟨ret_int (by rw [E.out]), (by repeat (first | exact Gr.refl _ | assumption | exact Dr.gr (by assumption) | refine Gr.alloc ?_ _ | refine Gr.drewN ?_ _ | refine Gr.drew ?_ | refine Gr.trans ?_ (by assumption) | refine Gr.trans ?_ (Dr.gr (by assumption))))⟩
    · have E : Hid (runF n f 0 = k) := hide (runF_eq (by omega) HA.out (by omega))
      go_wp2
      go_quiet (fail)
      go_wp2
      go_ret
      exact ⟨ret_int (by rw [E.out]), (hgr.drewN _)⟩

set_option maxHeartbeats 1000000 in
theorem countRuns_any (a : Option Addr) (n cap : Nat) (f : Nat → Int) (w : World) (h : Sl w a n f) (h0 : 0 < n) (hn : n ≤ cap) (hcap : cap ≤ maxLen) :
    Calls Tryd.prog 60 #[.slice a n cap] w fun e w' => e = .returned (.int .i64 (cntF n f 0)) ∧ Gr w w' := by
  unfold maxLen at hcap
  obtain ⟨b, o, rfl, hB, hc⟩ := h.at h0
  clear hc
  have hle := cntF_le n f 0
  go_enter Tryd.func60, Tryd.ntmps60
  go_wp2_with fail
  go_loopw [0, 3] (fun s c u => ∃ (i k : Nat) (a' : Option Addr), i ≤ n ∧ s = .slice a' (n - i) (cap - i) ∧ (i < n → a' = some ⟨b, o + i, none⟩) ∧ c = .int .i64 k ∧ k + cntF n f i = cntF n f 0 ∧ Gr w u) (fun s _ _ => match s with | .slice _ m _ => m | _ => 0)
  case atStart => exact ⟨0, 0, _, Nat.zero_le _, rfl, fun _ => rfl, rfl, Nat.zero_add _, Gr.refl _⟩
  case round =>
    obtain ⟨i, k, a', hi, rfl, ha', rfl, hk, hgr⟩ := hrel
    have hcast : ((n - i : Nat) : Int) = (n : Int) - i := by omega
    by_cases hlt : i < n
    · have ha := ha' hlt
      subst ha
      clear ha'
      have hp := runF_pos (f := f) hlt
      have hq := runF_le n f i
      have hs := runF_shift n f i
      have hstep := cntF_step (f := f) hlt
      generalize runF n f i = r at *
      go_wp2_with (go_at_call 61; refine (runLength_any _ _ _ (fun j => f (i + j)) _ ((h.drop i).gr hgr) (by omega) (by unfold maxLen; omega)).mono ?_; rintro e w1 ⟨rfl, hg1⟩; rw [hs])
      go_roundw
      case rel => exact ⟨i + r, k + 1, _, by omega, by rw [Nat.sub_sub, Nat.sub_sub], fun hl => by rw [if_neg (by omega), Nat.add_assoc], by go_num, by omega, (by repeat (first | exact Gr.refl _ | assumption | exact Dr.gr (by assumption) | refine Gr.alloc ?_ _ | refine Gr.drewN ?_ _ | refine Gr.drew ?_ | refine Gr.trans ?_ (by assumption) | refine Gr.trans ?_ (Dr.gr (by assumption))))⟩
      case measure => simp; omega
    · have E : Hid (cntF n f 0 = k) := hide (by rw [← hk, cntF_end hlt]; rfl)
      go_wp2
      go_ret
      exact ⟨ret_int (by rw [E.out]), hgr⟩

end Go.Proofs.YtakmiafloolpmaaDoor
