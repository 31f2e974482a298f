/- The call of TallyBytes answers true at every input, and each argument reads behind it as before. No condition. -/
import Derived.Test.YtkekljlkgnfofaaRows
import Derived.Test.YtkekljlkgnfofaaYBytesLaw
import Derived.Test.YtkekljlkgnfofaaTRow
import Derived.Test.YtkekljlkgnfofaaTRow6
import Derived.WalkKit
import Derived.ProofKit
import Derived.OpenShut
import Derived.ShutString
import Derived.ChangeOld
import Derived.Below
import Derived.Lib.SmallJoins
namespace Go.Proofs.Ytkekljlkgnfofaa.tallyBytes
open Go.ChangeShapes Go.WideShapes Go.ChangeAt Go.RowKit
open Go.ChangeMaps (open_string shut_string)
set_option linter.unusedVariables false

theorem own : ownKnob Try.prog.godebug = none := by kernel_rfl
theorem laidOut : laidOutB Try.prog = true := by kernel_rfl

set_option maxRecDepth 100000 in
theorem lifted (os : Os) (started : os.Started) (H : Type) (enc : TypeId × Value → H) :
    ReturnsInHanded {} Try.checked os 6 .any (Rows.tallyBytesSpec.pre6 enc Try.prog Try.f6 Rows.tallyBytesRow.domain false) (Rows.tallyBytesSpec.post enc Try.prog Try.f6 false true false false) := by
  refine returnsInHanded_of_change (C := Try.checked) own started (by kernel_rfl) Try.func6
    (ChangeSpec.witness6 (enc := enc) (C := Try.checked) false ⟨#[], #[.agg #[.int .u64 0, .int .u64 0, .int .u64 0, .int .u64 0, .int .u64 0, .int .u64 0], .agg #[.int .u64 0, .int .u64 0, .int .u64 0, .int .u64 0, .int .u64 0, .int .u64 0]], []⟩ 8 (by kernel_rfl) (by kernel_rfl) (by kernel_rfl) (by kernel_rfl)) ?_
  intro W base args ds gs before hval0 hW hcnd _
  have hval : ∀ (j : Nat) t v, Try.f6.params[j]? = some t → args[j]? = some v → Value.okWide Try.prog W .any base t v := hval0
  have hW' := hW
  obtain ⟨p, q, hA0, hV, rfl, hfz, hnd⟩ := hW
  have hA : DataW.TrodAll enc Try.prog W 0 (fun _ => true) true Try.f6.params.toList args.toList ds p := hA0
  rw [Try.params6] at hA hval
  obtain ⟨v0, vs0, d0, ds0, p0, q0, hargs, rfl, rfl, h0, r0⟩ := trodAll_cons hA
  obtain ⟨v1, vs1, d1, ds1, p1, q1, rfl, rfl, rfl, h1, r1⟩ := trodAll_cons r0
  obtain ⟨rfl, rfl, rfl⟩ := trodAll_nil r1
  obtain rfl : args = #[v0, v1] := by cases args; simp_all
  obtain ⟨rfl, rfl⟩ := trodVars_none hV
  have k0 := h0
  have lt0 : ∀ x ∈ p0, x.block < W.heap.size := by obtain ⟨m, hm⟩ := k0; exact DataW.trod_lt m _ _ _ hm
  obtain ⟨cs0, rfl, hsz0, m0, hj0⟩ := open_fields (m := 6) Try.underlying27 (by kernel_rfl) (hval 0 27 v0 rfl rfl) h0
  obtain ⟨c0_0, c0_1, c0_2, c0_3, c0_4, c0_5, rfl⟩ := array6 hsz0
  obtain ⟨y0_0, t0_0⟩ := hj0 0 _ rfl (by kernel_rfl) rfl (by omega)
  replace t0_0 : DataW.trod enc Try.prog W 0 (fun _ => true) true m0 22 [c0_0] = some y0_0 := t0_0
  obtain ⟨y0_1, t0_1⟩ := hj0 1 _ rfl (by kernel_rfl) rfl (by omega)
  replace t0_1 : DataW.trod enc Try.prog W 0 (fun _ => true) true m0 22 [c0_1] = some y0_1 := t0_1
  obtain ⟨y0_2, t0_2⟩ := hj0 2 _ rfl (by kernel_rfl) rfl (by omega)
  replace t0_2 : DataW.trod enc Try.prog W 0 (fun _ => true) true m0 22 [c0_2] = some y0_2 := t0_2
  obtain ⟨y0_3, t0_3⟩ := hj0 3 _ rfl (by kernel_rfl) rfl (by omega)
  replace t0_3 : DataW.trod enc Try.prog W 0 (fun _ => true) true m0 22 [c0_3] = some y0_3 := t0_3
  obtain ⟨y0_4, t0_4⟩ := hj0 4 _ rfl (by kernel_rfl) rfl (by omega)
  replace t0_4 : DataW.trod enc Try.prog W 0 (fun _ => true) true m0 22 [c0_4] = some y0_4 := t0_4
  obtain ⟨y0_5, t0_5⟩ := hj0 5 _ rfl (by kernel_rfl) rfl (by omega)
  replace t0_5 : DataW.trod enc Try.prog W 0 (fun _ => true) true m0 22 [c0_5] = some y0_5 := t0_5
  obtain ⟨a0_0, e0_0, _, w0_0⟩ := DataW.trod_int Try.underlying22 t0_0
  simp only [List.cons.injEq, and_true] at e0_0
  subst e0_0
  obtain ⟨a0_1, e0_1, _, w0_1⟩ := DataW.trod_int Try.underlying22 t0_1
  simp only [List.cons.injEq, and_true] at e0_1
  subst e0_1
  obtain ⟨a0_2, e0_2, _, w0_2⟩ := DataW.trod_int Try.underlying22 t0_2
  simp only [List.cons.injEq, and_true] at e0_2
  subst e0_2
  obtain ⟨a0_3, e0_3, _, w0_3⟩ := DataW.trod_int Try.underlying22 t0_3
  simp only [List.cons.injEq, and_true] at e0_3
  subst e0_3
  obtain ⟨a0_4, e0_4, _, w0_4⟩ := DataW.trod_int Try.underlying22 t0_4
  simp only [List.cons.injEq, and_true] at e0_4
  subst e0_4
  obtain ⟨a0_5, e0_5, _, w0_5⟩ := DataW.trod_int Try.underlying22 t0_5
  simp only [List.cons.injEq, and_true] at e0_5
  subst e0_5
  have k1 := h1
  have lt1 : ∀ x ∈ p1, x.block < W.heap.size := by obtain ⟨m, hm⟩ := k1; exact DataW.trod_lt m _ _ _ hm
  obtain ⟨cs1, rfl, hsz1, m1, hj1⟩ := open_fields (m := 6) Try.underlying27 (by kernel_rfl) (hval 1 27 v1 rfl rfl) h1
  obtain ⟨c1_0, c1_1, c1_2, c1_3, c1_4, c1_5, rfl⟩ := array6 hsz1
  obtain ⟨y1_0, t1_0⟩ := hj1 0 _ rfl (by kernel_rfl) rfl (by omega)
  replace t1_0 : DataW.trod enc Try.prog W 0 (fun _ => true) true m1 22 [c1_0] = some y1_0 := t1_0
  obtain ⟨y1_1, t1_1⟩ := hj1 1 _ rfl (by kernel_rfl) rfl (by omega)
  replace t1_1 : DataW.trod enc Try.prog W 0 (fun _ => true) true m1 22 [c1_1] = some y1_1 := t1_1
  obtain ⟨y1_2, t1_2⟩ := hj1 2 _ rfl (by kernel_rfl) rfl (by omega)
  replace t1_2 : DataW.trod enc Try.prog W 0 (fun _ => true) true m1 22 [c1_2] = some y1_2 := t1_2
  obtain ⟨y1_3, t1_3⟩ := hj1 3 _ rfl (by kernel_rfl) rfl (by omega)
  replace t1_3 : DataW.trod enc Try.prog W 0 (fun _ => true) true m1 22 [c1_3] = some y1_3 := t1_3
  obtain ⟨y1_4, t1_4⟩ := hj1 4 _ rfl (by kernel_rfl) rfl (by omega)
  replace t1_4 : DataW.trod enc Try.prog W 0 (fun _ => true) true m1 22 [c1_4] = some y1_4 := t1_4
  obtain ⟨y1_5, t1_5⟩ := hj1 5 _ rfl (by kernel_rfl) rfl (by omega)
  replace t1_5 : DataW.trod enc Try.prog W 0 (fun _ => true) true m1 22 [c1_5] = some y1_5 := t1_5
  obtain ⟨a1_0, e1_0, _, w1_0⟩ := DataW.trod_int Try.underlying22 t1_0
  simp only [List.cons.injEq, and_true] at e1_0
  subst e1_0
  obtain ⟨a1_1, e1_1, _, w1_1⟩ := DataW.trod_int Try.underlying22 t1_1
  simp only [List.cons.injEq, and_true] at e1_1
  subst e1_1
  obtain ⟨a1_2, e1_2, _, w1_2⟩ := DataW.trod_int Try.underlying22 t1_2
  simp only [List.cons.injEq, and_true] at e1_2
  subst e1_2
  obtain ⟨a1_3, e1_3, _, w1_3⟩ := DataW.trod_int Try.underlying22 t1_3
  simp only [List.cons.injEq, and_true] at e1_3
  subst e1_3
  obtain ⟨a1_4, e1_4, _, w1_4⟩ := DataW.trod_int Try.underlying22 t1_4
  simp only [List.cons.injEq, and_true] at e1_4
  subst e1_4
  obtain ⟨a1_5, e1_5, _, w1_5⟩ := DataW.trod_int Try.underlying22 t1_5
  simp only [List.cons.injEq, and_true] at e1_5
  subst e1_5
  clear hA0 hval0
  refine Calls.mono (tallyBytes_any (six a0_0 a0_1 a0_2 a0_3 a0_4 a0_5) (six a1_0 a1_1 a1_2 a1_3 a1_4 a1_5) W (six_all (u_wf w0_0) (u_wf w0_1) (u_wf w0_2) (u_wf w0_3) (u_wf w0_4) (u_wf w0_5)) (six_all (u_wf w1_0) (u_wf w1_1) (u_wf w1_2) (u_wf w1_3) (u_wf w1_4) (u_wf w1_5))) fun e W' ⟨he, bel⟩ => ?_
  subst he
  exact ⟨_, rfl, _, _, _, [], _, [], hW', trodAll_mk1 (shut_bool Try.underlying4 _), (trodAll_cons_mk (Below.trod laidOut (by kernel_rfl) (of_decide_eq_true (by kernel_rfl)) k0 bel lt0) (trodAll_cons_mk (Below.trod laidOut (by kernel_rfl) (of_decide_eq_true (by kernel_rfl)) k1 bel lt1) trodAll_mk0)), rfl, Below.frame bel _, fun h => by cases h⟩

theorem over : Rows.tallyBytesRow.holds Try.pinned (OpenSpec.ofChange Rows.tallyBytesSpec) :=
  OpenClaim.holds_of_wide 6 Try.f6 rfl rfl rfl rfl rfl rfl rfl ⟨rfl, rfl, rfl, rfl, rfl⟩ rfl rfl rfl rfl rfl (by kernel_rfl) Try.func6 (by kernel_rfl)
    (of_decide_eq_true (by kernel_rfl)) (by unfold Func.isWrapper; first | (rw [if_pos (by decide +kernel)]; kernel_rfl) | (rw [if_neg (by decide +kernel)]; exact ⟨rfl, rfl⟩))
    (fun os started H enc _ => lifted os started H enc)

theorem proved : Rows.TallyBytesSaid := over
#print axioms proved
end Go.Proofs.Ytkekljlkgnfofaa.tallyBytes
