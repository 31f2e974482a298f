/- table.rises: whether each number is above the one ahead of it. No condition. -/
import Derived.Test.YtgbadbkipaccgaaGreatBT
namespace Go.Proofs.YtgbadbkipaccgaaGreat
open Go.RowKit
set_option maxRecDepth 20000

/-- each number is above the one ahead of it -/
def riseB (z : Nat → Int) (m : Nat) : Bool := decide (∀ i, i < m → i = 0 ∨ z (i - 1) < z i)
theorem riseB_iff {z : Nat → Int} {m : Nat} : riseB z m = true ↔ ∀ i, i < m → i = 0 ∨ z (i - 1) < z i := by
  unfold riseB
  rw [decide_eq_true_iff]
theorem riseB_no {z : Nat → Int} {m j : Nat} (hj : j < m) (h0 : j ≠ 0) (h : z j ≤ z (j - 1)) : riseB z m = false := by
  rw [Bool.eq_false_iff]
  intro q
  rcases riseB_iff.1 q j hj with k | k <;> omega

set_option maxHeartbeats 1000000 in
theorem rises_any (a : Option Addr) (m c : Nat) (z : Nat → Int) (w : World) (h : SlI w a m z) (hm : m ≤ 1000000) :
    Calls Tryz.prog 83 #[.slice a m c] w fun e w' => e = .returned (.bool (riseB z m)) ∧ Dr w w' := by
  go_enter Tryz.func83, Tryz.ntmps83
  go_wp2
  go_loopw [6] (fun i u => ∃ j : Nat, j ≤ m ∧ i = .int .i64 j ∧ Hid (∀ i, i < j → i = 0 ∨ z (i - 1) < z i) ∧ Dr w u) (fun i _ => m - (intOf i).toNat)
  case atStart => exact ⟨0, Nat.zero_le _, rfl, hide (fun i hi => absurd hi (Nat.not_lt_zero _)), Dr.refl _⟩
  case round =>
    obtain ⟨j, hj, rfl, HJ, q, rfl⟩ := hrel
    by_cases hlt : j < m
    · obtain ⟨b1, o1, rfl, _, hc1⟩ := h.at (by omega)
      have j1 : (j : Int) < (m : Int) := by omega
      by_cases j0 : j = 0
      · subst j0
        clear hc1
        go_wp2_with fail
        go_quiet (fail)
        go_wp2
        go_roundw
        case rel => exact ⟨1, by omega, by go_num, hide (fun i hi => .inl (by omega)), by repeat (first | exact Dr.refl _ | assumption | refine Dr.add ?_ | refine Dr.trans ?_ (by assumption))⟩
        case measure => simp [intOf]; omega
      · obtain ⟨k, hk⟩ : ∃ k, k = j - 1 := ⟨_, rfl⟩
        have e1 := hc1 j hlt
        have e2 := hc1 k (by omega)
        have hw : IntKind.i64.wrap ((j : Int) - 1) = ((k : Nat) : Int) := by rw [wrapI (by omega)]; omega
        have HP : Hid (0 < j) := hide (by omega)
        have k0 : (0 : Int) ≤ (k : Int) := by omega
        have k1 : (k : Int) < (m : Int) := by omega
        have jj : (0 : Int) ≤ (j : Int) := by omega
        have HK := hide hk
        have HN : Hid (z j ≤ z k → riseB z m = false) := hide (fun q => riseB_no hlt j0 (by rw [← hk]; exact q))
        have HY : Hid (z k < z j → ∀ i, i < j + 1 → i = 0 ∨ z (i - 1) < z i) := hide (fun q i hi => by
          by_cases e : i = j
          · subst e; rw [← hk]; exact .inr q
          · exact HJ.out i (by omega))
        obtain ⟨v, hv⟩ : ∃ v, v = z j := ⟨_, rfl⟩
        obtain ⟨u, hu⟩ : ∃ u, u = z k := ⟨_, rfl⟩
        rw [← hv] at e1 HN HY
        rw [← hu] at e2 HN HY
        clear hc1 hk hv hu j0
        by_cases hle : v ≤ u
        · have hB := HN.out hle
          have HLE := hide hle
          clear hle
          go_wp2_with fail
          have p0 : decide (0 < (j : Int)) = true := by have := HP.out; simp; omega
          have p1 : decide (0 < j) = true := by simpa using HP.out
          have p2 : 0 < j := HP.out
          have d0 : decide (v ≤ u) = true := by simpa using HLE.out
          go_quiet (fail)
          go_wp2
          go_ret
          exact ⟨by rw [hB]; rfl, by repeat (first | exact Dr.refl _ | assumption | refine Dr.add ?_ | refine Dr.trans ?_ (by assumption))⟩
        · have HYY := hide (HY.out (by omega))
          have HLE := hide hle
          clear hle
          go_wp2_with fail
          have p0 : decide (0 < (j : Int)) = true := by have := HP.out; simp; omega
          have p1 : decide (0 < j) = true := by simpa using HP.out
          have p2 : 0 < j := HP.out
          have d0 : decide (v ≤ u) = false := by simpa using HLE.out
          go_quiet (fail)
          go_wp2
          go_roundw
          case rel => exact ⟨j + 1, by omega, by go_num, HYY, by repeat (first | exact Dr.refl _ | assumption | refine Dr.add ?_ | refine Dr.trans ?_ (by assumption))⟩
          case measure => simp [intOf]; omega
    · obtain rfl : j = m := by omega
      have hB : riseB z j = true := riseB_iff.2 HJ.out
      go_wp2
      go_ret
      exact ⟨by rw [hB]; rfl, by repeat (first | exact Dr.refl _ | assumption | refine Dr.add ?_ | refine Dr.trans ?_ (by assumption))⟩
end Go.Proofs.YtgbadbkipaccgaaGreat
