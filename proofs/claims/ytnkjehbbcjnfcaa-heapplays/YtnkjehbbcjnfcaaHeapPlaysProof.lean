/- The call of HeapPlays answers true at every input, and each argument reads behind it as before. No condition. -/
import Derived.Test.YtnkjehbbcjnfcaaRows
import Derived.Test.YtnkjehbbcjnfcaaHPlays13
import Derived.Test.YtnkjehbbcjnfcaaBW
import Derived.Test.YtnkjehbbcjnfcaaBT
import Derived.WalkKit
import Derived.ProofKit
import Derived.OpenShut
import Derived.ShutString
import Derived.ChangeOld
import Derived.Below
import Derived.Lib.SmallJoins
namespace Go.Proofs.Ytnkjehbbcjnfcaa.heapPlays
open Go.ChangeShapes Go.WideShapes Go.ChangeAt Go.RowKit
open Go.ChangeMaps (open_string shut_string)
set_option linter.unusedVariables false

theorem own : ownKnob Try.prog.godebug = none := by kernel_rfl
theorem laidOut : laidOutB Try.prog = true := by kernel_rfl

set_option maxRecDepth 100000 in
theorem lifted (os : Os) (started : os.Started) (H : Type) (enc : TypeId × Value → H) :
    ReturnsInHanded {} Try.checked os 3 .any (Rows.heapPlaysSpec.pre6 enc Try.prog Try.f3 Rows.heapPlaysRow.domain false) (Rows.heapPlaysSpec.post enc Try.prog Try.f3 false true false false) := by
  refine returnsInHanded_of_change (C := Try.checked) own started (by kernel_rfl) Try.func3
    (ChangeSpec.witness6 (enc := enc) (C := Try.checked) false ⟨#[], #[.slice none 0 0, .bool false], []⟩ 8 (by kernel_rfl) (by kernel_rfl) (by kernel_rfl) (by kernel_rfl)) ?_
  intro W base args ds gs before hval0 hW hcnd _
  have hval : ∀ (j : Nat) t v, Try.f3.params[j]? = some t → args[j]? = some v → Value.okWide Try.prog W .any base t v := hval0
  have hW' := hW
  obtain ⟨p, q, hA0, hV, rfl, hfz, hnd⟩ := hW
  have hA : DataW.TrodAll enc Try.prog W 0 (fun _ => true) true Try.f3.params.toList args.toList ds p := hA0
  rw [Try.params3] at hA hval
  obtain ⟨v0, vs0, d0, ds0, p0, q0, hargs, rfl, rfl, h0, r0⟩ := trodAll_cons hA
  obtain ⟨v1, vs1, d1, ds1, p1, q1, rfl, rfl, rfl, h1, r1⟩ := trodAll_cons r0
  obtain ⟨rfl, rfl, rfl⟩ := trodAll_nil r1
  obtain rfl : args = #[v0, v1] := by cases args; simp_all
  obtain ⟨rfl, rfl⟩ := trodVars_none hV
  have k0 := h0
  have lt0 : ∀ x ∈ p0, x.block < W.heap.size := by obtain ⟨m, hm⟩ := k0; exact DataW.trod_lt m _ _ _ hm
  obtain ⟨a0, len0, cap0, rfl⟩ := okWide_slice Try.underlying22 (hval 0 22 v0 rfl rfl)
  obtain ⟨z0, w0⟩ : ∃ z, IsSt 3 W a0 len0 cap0 z := by
    obtain ⟨fuel, hf⟩ := h0
    replace hf := by simpa [Value.cells] using hf
    refine isSt_mk Try.underlying22 hf fun y hy i hi q hq => ?_
    subst hy
    rcases (by omega : q = 0 ∨ q = 1 ∨ q = 2) with rfl | rfl | rfl
    · obtain ⟨v, y2, n2, hc, hv⟩ := slice_cell Try.underlying22 Try.underlying27 hf (m := 3) (j := 0) (by kernel_rfl) hi rfl (by kernel_rfl) rfl (by omega)
      obtain ⟨k, e, -, hw⟩ := DataW.trod_int Try.underlying3 hv
      simp only [List.cons.injEq, and_true] at e
      subst e
      exact ⟨k, hc, hw⟩
    · obtain ⟨v, y2, n2, hc, hv⟩ := slice_cell Try.underlying22 Try.underlying27 hf (m := 3) (j := 1) (by kernel_rfl) hi rfl (by kernel_rfl) rfl (by omega)
      obtain ⟨k, e, -, hw⟩ := DataW.trod_int Try.underlying3 hv
      simp only [List.cons.injEq, and_true] at e
      subst e
      exact ⟨k, hc, hw⟩
    · obtain ⟨v, y2, n2, hc, hv⟩ := slice_cell Try.underlying22 Try.underlying27 hf (m := 3) (j := 2) (by kernel_rfl) hi rfl (by kernel_rfl) rfl (by omega)
      obtain ⟨k, e, -, hw⟩ := DataW.trod_int Try.underlying3 hv
      simp only [List.cons.injEq, and_true] at e
      subst e
      exact ⟨k, hc, hw⟩
  obtain ⟨b1, rfl, rfl, rfl⟩ := open_bool Try.underlying4 (hval 1 4 v1 rfl rfl) h1
  clear hA0 hval0
  refine Calls.mono (heapPlays_any a0 len0 cap0 z0 b1 W (AsksI.of_st w0)) fun e W' ⟨he, bel⟩ => ?_
  subst he
  exact ⟨_, rfl, _, _, _, [], _, [], hW', trodAll_mk1 (shut_bool Try.underlying4 _), (trodAll_cons_mk (Below.trod laidOut (by kernel_rfl) (of_decide_eq_true (by kernel_rfl)) k0 bel lt0) (trodAll_cons_mk (shut_bool Try.underlying4 b1) trodAll_mk0)), rfl, Below.frame bel _, fun h => by cases h⟩

theorem over : Rows.heapPlaysRow.holds Try.pinned (OpenSpec.ofChange Rows.heapPlaysSpec) :=
  OpenClaim.holds_of_wide 3 Try.f3 rfl rfl rfl rfl rfl rfl rfl ⟨rfl, rfl, rfl, rfl, rfl⟩ rfl rfl rfl rfl rfl (by kernel_rfl) Try.func3 (by kernel_rfl)
    (of_decide_eq_true (by kernel_rfl)) (by unfold Func.isWrapper; first | (rw [if_pos (by decide +kernel)]; kernel_rfl) | (rw [if_neg (by decide +kernel)]; exact ⟨rfl, rfl⟩))
    (fun os started H enc _ => lifted os started H enc)

theorem proved : Rows.HeapPlaysSaid := over
#print axioms proved
end Go.Proofs.Ytnkjehbbcjnfcaa.heapPlays
