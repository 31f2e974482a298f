/- What the calls of package where (and the document's Within, May, In, IsCell) answer: each is the plain function of WMath; nothing is written. -/
import Derived.Test.YtigoehoaplndiaaRows
import Derived.WalkKit
import Derived.WalkSpells
import Derived.Deep.QuietTactic
import Derived.BigQuiet
import Derived.Test.YtigoehoaplndiaaWMath
namespace Go.Proofs.Ytigoehoaplndiaa
open Go.RowKit

theorem hide {p : Prop} (h : p) : Hid p := h
/-- w' is w behind some draws of the tape. -/
def Dr (w w' : World) : Prop := ∃ m, w' = w.drewN m
theorem Dr.refl (w : World) : Dr w w := ⟨0, rfl⟩
theorem Dr.trans {a b c : World} (h : Dr a b) (g : Dr b c) : Dr a c := by
  obtain ⟨m, rfl⟩ := h; obtain ⟨n, rfl⟩ := g; exact ⟨m + n, World.drewN_drewN _ _ _⟩
theorem Dr.add {w w' : World} {n : Nat} (h : Dr w w') : Dr w (w'.drewN n) := h.trans ⟨n, rfl⟩
theorem Dr.drew {w w' : World} (h : Dr w w') : Dr w w'.drew := h.trans ⟨1, rfl⟩
theorem Dr.grown {w w' : World} (h : Dr w w') : Grown w w' := by
  obtain ⟨m, rfl⟩ := h
  induction m with
  | zero => exact Grown.refl _
  | succ k ih => exact ih.drew
theorem Dr.quiet {P : Program} {f : FuncId} {args : Array Value} {w : World} {n : Nat} {v : Value}
    (h : Calls P f args (w.drewN n) fun e w' => e = .returned v ∧ Dr (w.drewN n) w') : Calls P f args (w.drewN n) fun e w'' => e = .returned v ∧ ∃ m, w'' = w.drewN m :=
  Calls.quiet_of h
theorem ret_int {k : IntKind} {a b : Int} (h : a = b) : Ending.returned (.int k a) = .returned (.int k b) := by rw [h]
theorem ret_bool {a b : Bool} (h : a = b) : Ending.returned (.bool a) = .returned (.bool b) := by rw [h]
theorem ret_int2 {k : IntKind} {a b c d : Int} (h : a = b) (g : c = d) : Ending.returned (.tuple #[.int k a, .int k c]) = .returned (.tuple #[.int k b, .int k d]) := by rw [h, g]

set_option maxHeartbeats 400000 in
theorem may_any (a b : Int) (w : World) :
    Calls Try.prog 92 #[.int .i64 a, .int .i64 b] w fun e w' => e = .returned (.bool (mayB a b)) ∧ Dr w w' := by
  by_cases h1 : 1 ≤ a <;> by_cases h2 : a ≤ 1024 <;> by_cases h3 : 1 ≤ b <;> by_cases h4 : b ≤ 1024
  all_goals
    go_enter Try.func92, Try.ntmps92
    go_wp2
    go_ret
    exact ⟨ret_bool (by simp [mayB, h1, h2, h3, h4]), by repeat (first | exact Dr.refl _ | assumption | refine Dr.add ?_ | refine Dr.trans ?_ (by assumption))⟩

set_option maxHeartbeats 400000 in
theorem within_any (n lo hi : Int) (w : World) (h : lo ≤ hi) (hl : -4611686018427387904 ≤ lo * 4) (hh : hi * 4 ≤ 4611686018427387904) :
    Calls Try.prog 19 #[.int .i64 n, .int .i64 lo, .int .i64 hi] w fun e w' => e = .returned (.int .i64 (withinF n lo hi)) ∧ Dr w w' := by
  have b := tmod_bd n (hi - lo + 1) (by omega)
  have hz : ((hi - lo + 1) == 0) = false := by simp; omega
  by_cases g : n.tmod (hi - lo + 1) < 0
  · have e := tmod_neg n (hi - lo + 1) (by omega) g
    have H : Hid (withinF n lo hi = lo + (n.tmod (hi - lo + 1) + hi - lo + 1)) := hide (by unfold withinF; omega)
    clear e
    go_enter Try.func19, Try.ntmps19
    go_wp2
    go_ret
    exact ⟨ret_int (by rw [H.out]), by repeat (first | exact Dr.refl _ | assumption | refine Dr.add ?_ | refine Dr.trans ?_ (by assumption))⟩
  · have e := tmod_pos n (hi - lo + 1) (by omega) g
    have H : Hid (withinF n lo hi = lo + (n.tmod (hi - lo + 1))) := hide (by unfold withinF; omega)
    clear e
    go_enter Try.func19, Try.ntmps19
    go_wp2
    go_ret
    exact ⟨ret_int (by rw [H.out]), by repeat (first | exact Dr.refl _ | assumption | refine Dr.add ?_ | refine Dr.trans ?_ (by assumption))⟩

set_option maxHeartbeats 400000 in
theorem isCell_any (a b c : Int) (w : World) :
    Calls Try.prog 91 #[.int .i64 a, .int .i64 b, .int .i64 c] w fun e w' => e = .returned (.bool (isCellB a b c)) ∧ Dr w w' := by
  cases hm : mayB a b
  · go_enter Try.func91, Try.ntmps91
    go_wp2_with (go_at_call 92; refine (may_any _ _ _).mono ?_; rintro e w' ⟨rfl, hd⟩)
    go_ret
    exact ⟨ret_bool (by simp [isCellB, hm]), by repeat (first | exact Dr.refl _ | assumption | refine Dr.add ?_ | refine Dr.trans ?_ (by assumption))⟩
  · have hp := may_mul hm
    by_cases h1 : 0 ≤ c
    · by_cases h2 : c < a * b
      all_goals
        go_enter Try.func91, Try.ntmps91
        go_wp2_with (go_at_call 92; refine (may_any _ _ _).mono ?_; rintro e w' ⟨rfl, hd⟩)
        go_ret
        exact ⟨ret_bool (by simp [isCellB, hm, h1, h2]), by repeat (first | exact Dr.refl _ | assumption | refine Dr.add ?_ | refine Dr.trans ?_ (by assumption))⟩
    · go_enter Try.func91, Try.ntmps91
      go_wp2_with (go_at_call 92; refine (may_any _ _ _).mono ?_; rintro e w' ⟨rfl, hd⟩)
      go_ret
      exact ⟨ret_bool (by simp [isCellB, hm]; omega), by repeat (first | exact Dr.refl _ | assumption | refine Dr.add ?_ | refine Dr.trans ?_ (by assumption))⟩

set_option maxHeartbeats 400000 in
theorem place_yes (a b c : Int) (w : World) (h : isCellB a b c = true) :
    Calls Try.prog 73 #[.int .i64 a, .int .i64 b, .int .i64 c] w fun e w' => e = .returned (.tuple #[.int .i64 (c % a), .int .i64 (c / a)]) ∧ Dr w w' := by
  obtain ⟨m, h0, h1⟩ := (isCellB_iff a b c).1 h
  have hp := may_mul m
  obtain ⟨m1, m2, m3, m4⟩ := (mayB_iff a b).1 m
  have hz : (a == 0) = false := by simp; omega
  go_enter Try.func73, Try.ntmps73
  go_wp2_with (go_at_call 91; refine (isCell_any _ _ _ _).mono ?_; rintro e w' ⟨rfl, hd⟩)
  go_quiet (fail)
  go_wp2
  go_ret2
  exact ⟨rfl, by repeat (first | exact Dr.refl _ | assumption | refine Dr.add ?_ | refine Dr.trans ?_ (by assumption))⟩

set_option maxHeartbeats 400000 in
theorem place_no (a b c : Int) (w : World) (h : isCellB a b c = false) :
    Calls Try.prog 73 #[.int .i64 a, .int .i64 b, .int .i64 c] w fun e w' => e = .returned (.tuple #[.int .i64 (-1), .int .i64 (-1)]) ∧ Dr w w' := by
  go_enter Try.func73, Try.ntmps73
  go_wp2_with (go_at_call 91; refine (isCell_any _ _ _ _).mono ?_; rintro e w' ⟨rfl, hd⟩)
  go_ret2
  exact ⟨rfl, by repeat (first | exact Dr.refl _ | assumption | refine Dr.add ?_ | refine Dr.trans ?_ (by assumption))⟩

set_option maxHeartbeats 400000 in
theorem cell_any (a b x y : Int) (w : World) :
    Calls Try.prog 74 #[.int .i64 a, .int .i64 b, .int .i64 x, .int .i64 y] w fun e w' => e = .returned (.int .i64 (cellF a b x y)) ∧ Dr w w' := by
  cases hm : mayB a b
  · go_enter Try.func74, Try.ntmps74
    go_wp2_with (go_at_call 92; refine (may_any _ _ _).mono ?_; rintro e w' ⟨rfl, hd⟩)
    go_ret
    exact ⟨ret_int (by simp [cellF, hm]), by repeat (first | exact Dr.refl _ | assumption | refine Dr.add ?_ | refine Dr.trans ?_ (by assumption))⟩
  · obtain ⟨m1, m2, m3, m4⟩ := (mayB_iff a b).1 hm
    by_cases h1 : x < 0
    · go_enter Try.func74, Try.ntmps74
      go_wp2_with (go_at_call 92; refine (may_any _ _ _).mono ?_; rintro e w' ⟨rfl, hd⟩)
      go_ret
      exact ⟨ret_int (by unfold cellF; rw [if_neg (by omega)]), by repeat (first | exact Dr.refl _ | assumption | refine Dr.add ?_ | refine Dr.trans ?_ (by assumption))⟩
    by_cases h2 : a ≤ x
    · go_enter Try.func74, Try.ntmps74
      go_wp2_with (go_at_call 92; refine (may_any _ _ _).mono ?_; rintro e w' ⟨rfl, hd⟩)
      go_ret
      exact ⟨ret_int (by unfold cellF; rw [if_neg (by omega)]), by repeat (first | exact Dr.refl _ | assumption | refine Dr.add ?_ | refine Dr.trans ?_ (by assumption))⟩
    by_cases h3 : y < 0
    · go_enter Try.func74, Try.ntmps74
      go_wp2_with (go_at_call 92; refine (may_any _ _ _).mono ?_; rintro e w' ⟨rfl, hd⟩)
      go_ret
      exact ⟨ret_int (by unfold cellF; rw [if_neg (by omega)]), by repeat (first | exact Dr.refl _ | assumption | refine Dr.add ?_ | refine Dr.trans ?_ (by assumption))⟩
    by_cases h4 : b ≤ y
    · go_enter Try.func74, Try.ntmps74
      go_wp2_with (go_at_call 92; refine (may_any _ _ _).mono ?_; rintro e w' ⟨rfl, hd⟩)
      go_ret
      exact ⟨ret_int (by unfold cellF; rw [if_neg (by omega)]), by repeat (first | exact Dr.refl _ | assumption | refine Dr.add ?_ | refine Dr.trans ?_ (by assumption))⟩
    have hb := mul_bd (w := y) (h := a) (W := 1024) (H := 1024) (by omega) (by omega) (by omega) m2
    go_enter Try.func74, Try.ntmps74
    go_wp2_with (go_at_call 92; refine (may_any _ _ _).mono ?_; rintro e w' ⟨rfl, hd⟩)
    go_ret
    exact ⟨ret_int (by rw [cellF_yes hm (by omega) (by omega) (by omega) (by omega)]), by repeat (first | exact Dr.refl _ | assumption | refine Dr.add ?_ | refine Dr.trans ?_ (by assumption))⟩

end Go.Proofs.Ytigoehoaplndiaa
