/- The call of SeedsBest answers true at every input, and each argument reads behind it as before. No condition. -/
import Derived.Test.YtobankjdgdjehaaRows
import Derived.Test.YtobankjdgdjehaaSLBest8
import Derived.Test.YtobankjdgdjehaaTRow
import Derived.Test.YtobankjdgdjehaaTRow2
import Derived.WalkKit
import Derived.ProofKit
import Derived.OpenShut
import Derived.ShutString
import Derived.ChangeOld
import Derived.Below
import Derived.Lib.SmallJoins
namespace Go.Proofs.Ytobankjdgdjehaa.seedsBest
open Go.ChangeShapes Go.WideShapes Go.ChangeAt Go.RowKit
open Go.ChangeMaps (open_string shut_string)
set_option linter.unusedVariables false

theorem own : ownKnob Try.prog.godebug = none := by kernel_rfl
theorem laidOut : laidOutB Try.prog = true := by kernel_rfl

set_option maxRecDepth 100000 in
theorem lifted (os : Os) (started : os.Started) (H : Type) (enc : TypeId × Value → H) :
    ReturnsInHanded {} Try.checked os 7 .any (Rows.seedsBestSpec.pre6 enc Try.prog Try.f7 Rows.seedsBestRow.domain false) (Rows.seedsBestSpec.post enc Try.prog Try.f7 false true false false) := by
  refine returnsInHanded_of_change (C := Try.checked) own started (by kernel_rfl) Try.func7
    (ChangeSpec.witness6 (enc := enc) (C := Try.checked) false ⟨#[], #[.slice none 0 0, .slice none 0 0, .int .i64 0, .int .i64 0], []⟩ 8 (by kernel_rfl) (by kernel_rfl) (by kernel_rfl) (by kernel_rfl)) ?_
  intro W base args ds gs before hval0 hW hcnd _
  have hval : ∀ (j : Nat) t v, Try.f7.params[j]? = some t → args[j]? = some v → Value.okWide Try.prog W .any base t v := hval0
  have hW' := hW
  obtain ⟨p, q, hA0, hV, rfl, hfz, hnd⟩ := hW
  have hA : DataW.TrodAll enc Try.prog W 0 (fun _ => true) true Try.f7.params.toList args.toList ds p := hA0
  rw [Try.params7] at hA hval
  obtain ⟨v0, vs0, d0, ds0, p0, q0, hargs, rfl, rfl, h0, r0⟩ := trodAll_cons hA
  obtain ⟨v1, vs1, d1, ds1, p1, q1, rfl, rfl, rfl, h1, r1⟩ := trodAll_cons r0
  obtain ⟨v2, vs2, d2, ds2, p2, q2, rfl, rfl, rfl, h2, r2⟩ := trodAll_cons r1
  obtain ⟨v3, vs3, d3, ds3, p3, q3, rfl, rfl, rfl, h3, r3⟩ := trodAll_cons r2
  obtain ⟨rfl, rfl, rfl⟩ := trodAll_nil r3
  obtain rfl : args = #[v0, v1, v2, v3] := by cases args; simp_all
  obtain ⟨rfl, rfl⟩ := trodVars_none hV
  have k0 := h0
  have lt0 : ∀ x ∈ p0, x.block < W.heap.size := by obtain ⟨m, hm⟩ := k0; exact DataW.trod_lt m _ _ _ hm
  obtain ⟨a0, len0, cap0, rfl⟩ := okWide_slice Try.underlying25 (hval 0 25 v0 rfl rfl)
  obtain ⟨z0, w0⟩ : ∃ z, IsSt 3 W a0 len0 cap0 z := by
    obtain ⟨fuel, hf⟩ := h0
    replace hf := by simpa [Value.cells] using hf
    refine isSt_mk Try.underlying25 hf fun y hy i hi q hq => ?_
    subst hy
    rcases (by omega : q = 0 ∨ q = 1 ∨ q = 2) with rfl | rfl | rfl
    · obtain ⟨v, y2, n2, hc, hv⟩ := slice_cell Try.underlying25 Try.underlying38 hf (m := 3) (j := 0) (by kernel_rfl) hi rfl (by kernel_rfl) rfl (by omega)
      obtain ⟨k, e, -, hw⟩ := DataW.trod_int Try.underlying3 hv
      simp only [List.cons.injEq, and_true] at e
      subst e
      exact ⟨k, hc, hw⟩
    · obtain ⟨v, y2, n2, hc, hv⟩ := slice_cell Try.underlying25 Try.underlying38 hf (m := 3) (j := 1) (by kernel_rfl) hi rfl (by kernel_rfl) rfl (by omega)
      obtain ⟨k, e, -, hw⟩ := DataW.trod_int Try.underlying3 hv
      simp only [List.cons.injEq, and_true] at e
      subst e
      exact ⟨k, hc, hw⟩
    · obtain ⟨v, y2, n2, hc, hv⟩ := slice_cell Try.underlying25 Try.underlying38 hf (m := 3) (j := 2) (by kernel_rfl) hi rfl (by kernel_rfl) rfl (by omega)
      obtain ⟨k, e, -, hw⟩ := DataW.trod_int Try.underlying3 hv
      simp only [List.cons.injEq, and_true] at e
      subst e
      exact ⟨k, hc, hw⟩
  have k1 := h1
  have lt1 : ∀ x ∈ p1, x.block < W.heap.size := by obtain ⟨m, hm⟩ := k1; exact DataW.trod_lt m _ _ _ hm
  obtain ⟨a1, len1, cap1, rfl⟩ := okWide_slice Try.underlying25 (hval 1 25 v1 rfl rfl)
  obtain ⟨z1, w1⟩ : ∃ z, IsSt 3 W a1 len1 cap1 z := by
    obtain ⟨fuel, hf⟩ := h1
    replace hf := by simpa [Value.cells] using hf
    refine isSt_mk Try.underlying25 hf fun y hy i hi q hq => ?_
    subst hy
    rcases (by omega : q = 0 ∨ q = 1 ∨ q = 2) with rfl | rfl | rfl
    · obtain ⟨v, y2, n2, hc, hv⟩ := slice_cell Try.underlying25 Try.underlying38 hf (m := 3) (j := 0) (by kernel_rfl) hi rfl (by kernel_rfl) rfl (by omega)
      obtain ⟨k, e, -, hw⟩ := DataW.trod_int Try.underlying3 hv
      simp only [List.cons.injEq, and_true] at e
      subst e
      exact ⟨k, hc, hw⟩
    · obtain ⟨v, y2, n2, hc, hv⟩ := slice_cell Try.underlying25 Try.underlying38 hf (m := 3) (j := 1) (by kernel_rfl) hi rfl (by kernel_rfl) rfl (by omega)
      obtain ⟨k, e, -, hw⟩ := DataW.trod_int Try.underlying3 hv
      simp only [List.cons.injEq, and_true] at e
      subst e
      exact ⟨k, hc, hw⟩
    · obtain ⟨v, y2, n2, hc, hv⟩ := slice_cell Try.underlying25 Try.underlying38 hf (m := 3) (j := 2) (by kernel_rfl) hi rfl (by kernel_rfl) rfl (by omega)
      obtain ⟨k, e, -, hw⟩ := DataW.trod_int Try.underlying3 hv
      simp only [List.cons.injEq, and_true] at e
      subst e
      exact ⟨k, hc, hw⟩
  obtain ⟨a2, rfl, rfl, rfl, w2⟩ := open_int Try.underlying3 (hval 2 3 v2 rfl rfl) h2
  obtain ⟨a3, rfl, rfl, rfl, w3⟩ := open_int Try.underlying3 (hval 3 3 v3 rfl rfl) h3
  clear hA0 hval0
  refine Calls.mono (seedsBest_any a0 len0 cap0 _ a1 len1 cap1 _ a2 a3 W (SlS.of_st w0) (SlS.of_st w1)) fun e W' ⟨he, bel⟩ => ?_
  subst he
  exact ⟨_, rfl, _, _, _, [], _, [], hW', trodAll_mk1 (shut_bool Try.underlying4 _), (trodAll_cons_mk (Below.trod laidOut (by kernel_rfl) (of_decide_eq_true (by kernel_rfl)) k0 bel lt0) (trodAll_cons_mk (Below.trod laidOut (by kernel_rfl) (of_decide_eq_true (by kernel_rfl)) k1 bel lt1) (trodAll_cons_mk (shut_int Try.underlying3 w2) (trodAll_cons_mk (shut_int Try.underlying3 w3) trodAll_mk0)))), rfl, Below.frame bel _, fun h => by cases h⟩

theorem over : Rows.seedsBestRow.holds Try.pinned (OpenSpec.ofChange Rows.seedsBestSpec) :=
  OpenClaim.holds_of_wide 7 Try.f7 rfl rfl rfl rfl rfl rfl rfl ⟨rfl, rfl, rfl, rfl, rfl⟩ rfl rfl rfl rfl rfl (by kernel_rfl) Try.func7 (by kernel_rfl)
    (of_decide_eq_true (by kernel_rfl)) (by unfold Func.isWrapper; first | (rw [if_pos (by decide +kernel)]; kernel_rfl) | (rw [if_neg (by decide +kernel)]; exact ⟨rfl, rfl⟩))
    (fun os started H enc _ => lifted os started H enc)

theorem proved : Rows.SeedsBestSaid := over
#print axioms proved
end Go.Proofs.Ytobankjdgdjehaa.seedsBest
