/- What the calls of package where (and the document's Within, May, In, IsCell) answer: each is the plain function of WMath; nothing is written. -/
import Derived.Test.YtjnoklfmdckidaaRows
import Derived.WalkKit
import Derived.WalkSpells
import Derived.Deep.QuietTactic
import Derived.BigQuiet
import Derived.Test.YtjnoklfmdckidaaWMath
namespace Go.Proofs.Ytjnoklfmdckidaa
open Go.RowKit

theorem hide {p : Prop} (h : p) : Hid p := h
/-- w' is w behind some draws of the tape. -/
def Dr (w w' : World) : Prop := ∃ m, w' = w.drewN m
theorem Dr.refl (w : World) : Dr w w := ⟨0, rfl⟩
theorem Dr.trans {a b c : World} (h : Dr a b) (g : Dr b c) : Dr a c := by
  obtain ⟨m, rfl⟩ := h; obtain ⟨n, rfl⟩ := g; exact ⟨m + n, World.drewN_drewN _ _ _⟩
theorem Dr.add {w w' : World} {n : Nat} (h : Dr w w') : Dr w (w'.drewN n) := h.trans ⟨n, rfl⟩
theorem Dr.drew {w w' : World} (h : Dr w w') : Dr w w'.drew := h.trans ⟨1, rfl⟩
theorem Dr.grown {w w' : World} (h : Dr w w') : Grown w w' := by
  obtain ⟨m, rfl⟩ := h
  induction m with
  | zero => exact Grown.refl _
  | succ k ih => exact ih.drew
theorem Dr.quiet {P : Program} {f : FuncId} {args : Array Value} {w : World} {n : Nat} {v : Value}
    (h : Calls P f args (w.drewN n) fun e w' => e = .returned v ∧ Dr (w.drewN n) w') : Calls P f args (w.drewN n) fun e w'' => e = .returned v ∧ ∃ m, w'' = w.drewN m :=
  Calls.quiet_of h
theorem ret_int {k : IntKind} {a b : Int} (h : a = b) : Ending.returned (.int k a) = .returned (.int k b) := by rw [h]
theorem ret_bool {a b : Bool} (h : a = b) : Ending.returned (.bool a) = .returned (.bool b) := by rw [h]
theorem ret_int2 {k : IntKind} {a b c d : Int} (h : a = b) (g : c = d) : Ending.returned (.tuple #[.int k a, .int k c]) = .returned (.tuple #[.int k b, .int k d]) := by rw [h, g]

set_option maxHeartbeats 400000 in
theorem within_any (n lo hi : Int) (w : World) (h : lo ≤ hi) (hl : -4611686018427387904 ≤ lo * 4) (hh : hi * 4 ≤ 4611686018427387904) :
    Calls Try.prog 8 #[.int .i64 n, .int .i64 lo, .int .i64 hi] w fun e w' => e = .returned (.int .i64 (withinF n lo hi)) ∧ Dr w w' := by
  have b := tmod_bd n (hi - lo + 1) (by omega)
  have hz : ((hi - lo + 1) == 0) = false := by simp; omega
  by_cases g : n.tmod (hi - lo + 1) < 0
  · have e := tmod_neg n (hi - lo + 1) (by omega) g
    have H : Hid (withinF n lo hi = lo + (n.tmod (hi - lo + 1) + hi - lo + 1)) := hide (by unfold withinF; omega)
    clear e
    go_enter Try.func8, Try.ntmps8
    go_wp2
    go_ret
    exact ⟨ret_int (by rw [H.out]), by repeat (first | exact Dr.refl _ | assumption | refine Dr.add ?_ | refine Dr.trans ?_ (by assumption))⟩
  · have e := tmod_pos n (hi - lo + 1) (by omega) g
    have H : Hid (withinF n lo hi = lo + (n.tmod (hi - lo + 1))) := hide (by unfold withinF; omega)
    clear e
    go_enter Try.func8, Try.ntmps8
    go_wp2
    go_ret
    exact ⟨ret_int (by rw [H.out]), by repeat (first | exact Dr.refl _ | assumption | refine Dr.add ?_ | refine Dr.trans ?_ (by assumption))⟩

end Go.Proofs.Ytjnoklfmdckidaa
