/- What the calls of package where (and the document's Within, May, In, IsCell) answer: each is the plain function of WMath; nothing is written. -/
import Derived.Test.YtkekljlkgnfofaaRows
import Derived.WalkKit
import Derived.WalkSpells
import Derived.Deep.QuietTactic
import Derived.BigQuiet
import Derived.Test.YtkekljlkgnfofaaWMath
namespace Go.Proofs.Ytkekljlkgnfofaa
open Go.RowKit

theorem hide {p : Prop} (h : p) : Hid p := h
/-- w' is w behind some draws of the tape. -/
def Dr (w w' : World) : Prop := ∃ m, w' = w.drewN m
theorem Dr.refl (w : World) : Dr w w := ⟨0, rfl⟩
theorem Dr.trans {a b c : World} (h : Dr a b) (g : Dr b c) : Dr a c := by
  obtain ⟨m, rfl⟩ := h; obtain ⟨n, rfl⟩ := g; exact ⟨m + n, World.drewN_drewN _ _ _⟩
theorem Dr.add {w w' : World} {n : Nat} (h : Dr w w') : Dr w (w'.drewN n) := h.trans ⟨n, rfl⟩
theorem Dr.drew {w w' : World} (h : Dr w w') : Dr w w'.drew := h.trans ⟨1, rfl⟩
theorem Dr.grown {w w' : World} (h : Dr w w') : Grown w w' := by
  obtain ⟨m, rfl⟩ := h
  induction m with
  | zero => exact Grown.refl _
  | succ k ih => exact ih.drew
theorem Dr.quiet {P : Program} {f : FuncId} {args : Array Value} {w : World} {n : Nat} {v : Value}
    (h : Calls P f args (w.drewN n) fun e w' => e = .returned v ∧ Dr (w.drewN n) w') : Calls P f args (w.drewN n) fun e w'' => e = .returned v ∧ ∃ m, w'' = w.drewN m :=
  Calls.quiet_of h
theorem ret_int {k : IntKind} {a b : Int} (h : a = b) : Ending.returned (.int k a) = .returned (.int k b) := by rw [h]
theorem ret_bool {a b : Bool} (h : a = b) : Ending.returned (.bool a) = .returned (.bool b) := by rw [h]
theorem ret_int2 {k : IntKind} {a b c d : Int} (h : a = b) (g : c = d) : Ending.returned (.tuple #[.int k a, .int k c]) = .returned (.tuple #[.int k b, .int k d]) := by rw [h, g]

end Go.Proofs.Ytkekljlkgnfofaa
