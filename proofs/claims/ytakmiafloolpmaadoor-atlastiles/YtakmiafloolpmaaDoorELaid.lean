/- What the rows' listed variables give a walk; a world that meets the condition. -/
import Derived.Test.YtakmiafloolpmaaDoorRows
import Derived.Test.YtakmiafloolpmaaDoorEFault
import Derived.LaidSub
import Derived.LaidLaws
import Derived.LaidHandle
import Derived.Stop.LaidTwo
import Derived.Stop.Joined
import Derived.MakeChecks
namespace Go.Proofs.YtakmiafloolpmaaDoor
open Go.RowKit
set_option maxRecDepth 100000

/-- the variables that every row of this seat lists, with what they hold -/
def laidL : List (String × DataW Unit) := Rows.atlasAsksRow.laid
theorem laidL_eq : laidL = [("errors.errorType", Rows.laid_errors_errorType), ("herdsman/pack.errEnd", Rows.laid_herdsman_pack_errEnd), ("herdsman/pack.errNoForm", Rows.laid_herdsman_pack_errNoForm), ("herdsman/pack.errZero", Rows.laid_herdsman_pack_errZero), ("herdsman/pack.errBeyond", Rows.laid_herdsman_pack_errBeyond), ("herdsman/pack.errAgain", Rows.laid_herdsman_pack_errAgain), ("herdsman/pack.errWasteful", Rows.laid_herdsman_pack_errWasteful)] := rfl

noncomputable def low : Nat := (World.holding Tryd.prog default ⟨#[], #[], []⟩).heap.size
noncomputable def laidWorld (os : Os) : World :=
  let w0 := World.holding Tryd.prog os ⟨#[.cells #[.string { data := #[116, 104, 101, 32, 98, 121, 116, 101, 115, 32, 101, 110, 100, 32, 116, 111, 111, 32, 101, 97, 114, 108, 121] }] 162, .cells #[.string { data := #[116, 104, 101, 114, 101, 32, 105, 115, 32, 110, 111, 32, 115, 117, 99, 104, 32, 102, 111, 114, 109] }] 162, .cells #[.string { data := #[97, 32, 99, 111, 115, 116, 32, 111, 102, 32, 48] }] 162, .cells #[.string { data := #[97, 32, 114, 117, 110, 32, 103, 111, 101, 115, 32, 111, 110, 32, 98, 101, 121, 111, 110, 100, 32, 116, 104, 101, 32, 108, 97, 115, 116, 32, 99, 101, 108, 108] }] 162, .cells #[.string { data := #[97, 32, 114, 117, 110, 32, 104, 97, 115, 32, 116, 104, 101, 32, 99, 111, 115, 116, 32, 111, 102, 32, 116, 104, 101, 32, 114, 117, 110, 32, 97, 104, 101, 97, 100, 32, 111, 102, 32, 105, 116] }] 162, .cells #[.string { data := #[97, 110, 111, 116, 104, 101, 114, 32, 102, 111, 114, 109, 32, 105, 115, 32, 116, 104, 101, 32, 111, 110, 101, 32, 116, 111, 32, 119, 114, 105, 116, 101] }] 162], #[], []⟩
  { w0 with heap := (((((((w0.heap.modify 3 fun
      | .cells _ t frozen => .cells #[.iface 141 (.pointer (some ⟨low + 0, 0, none⟩))] t frozen
      | o => o).modify 4 fun
      | .cells _ t frozen => .cells #[.iface 141 (.pointer (some ⟨low + 1, 0, none⟩))] t frozen
      | o => o).modify 5 fun
      | .cells _ t frozen => .cells #[.iface 141 (.pointer (some ⟨low + 2, 0, none⟩))] t frozen
      | o => o).modify 6 fun
      | .cells _ t frozen => .cells #[.iface 141 (.pointer (some ⟨low + 3, 0, none⟩))] t frozen
      | o => o).modify 7 fun
      | .cells _ t frozen => .cells #[.iface 141 (.pointer (some ⟨low + 4, 0, none⟩))] t frozen
      | o => o).modify 2 fun
      | .cells _ t frozen => .cells #[.iface 141 (.pointer (some ⟨low + 5, 0, none⟩))] t frozen
      | o => o).modify 1 fun
      | .cells _ t frozen => .cells #[.iface 107 (.agg #[.pointer (some ⟨8, 67, none⟩)])] t frozen
      | o => o) }
theorem laid_met (os : Os) (args : Array Value) : laidMetH Tryd.prog laidL ((laidWorld os).forCall (fun _ _ => 0) ⟨#[], args, []⟩).memory :=
  laidMetH_of_parts (laidMet_of_run (ps := [.cell 3 0, .cell (low + 0) 0, .cell 4 0, .cell (low + 1) 0, .cell 5 0, .cell (low + 2) 0, .cell 6 0, .cell (low + 3) 0, .cell 7 0, .cell (low + 4) 0, .cell 2 0, .cell (low + 5) 0]) 8 (by kernel_rfl) (by kernel_rfl) (by kernel_rfl)) (by kernel_rfl)

theorem gET : Tryd.prog.globalNamed "errors.errorType" = some 1 := by kernel_rfl
theorem gRt : (Tryd.prog.cutTypes.find? (·.1 == "internal/reflectlite.rtype")).map (·.2) = some 107 := by kernel_rfl
theorem gRow : ((List.range 174).filter fun t => Tryd.prog.rowNamed t [101, 114, 114, 111, 114]) = [67] := by kernel_rfl
theorem gSize : Tryd.prog.types.size = 174 := by kernel_rfl
theorem gCellsE : Tryd.prog.cellsOf 162 = 1 := by kernel_rfl
theorem gCellsS : Tryd.prog.cellsOf 9 = 1 := by kernel_rfl
theorem gStar : "*" ++ "errors.errorString" = "*errors.errorString" := by decide
theorem gName (u : TypeId) (h : Tryd.prog.typeName? 3 u = some "*errors.errorString") : u = 141 :=
  typeName_ptr_named (nm := "errors.errorString") (by rw [gStar]; kernel_rfl) (by kernel_rfl) (by decide) u (by rw [gStar]; exact h)
theorem g_errEnd : Tryd.prog.globalNamed "herdsman/pack.errEnd" = some 3 := by kernel_rfl
theorem t_errEnd : (Tryd.prog.globals[3]?).map (·.type) = some 67 := by kernel_rfl
theorem g_errNoForm : Tryd.prog.globalNamed "herdsman/pack.errNoForm" = some 4 := by kernel_rfl
theorem t_errNoForm : (Tryd.prog.globals[4]?).map (·.type) = some 67 := by kernel_rfl
theorem g_errZero : Tryd.prog.globalNamed "herdsman/pack.errZero" = some 5 := by kernel_rfl
theorem t_errZero : (Tryd.prog.globals[5]?).map (·.type) = some 67 := by kernel_rfl
theorem g_errBeyond : Tryd.prog.globalNamed "herdsman/pack.errBeyond" = some 6 := by kernel_rfl
theorem t_errBeyond : (Tryd.prog.globals[6]?).map (·.type) = some 67 := by kernel_rfl
theorem g_errAgain : Tryd.prog.globalNamed "herdsman/pack.errAgain" = some 7 := by kernel_rfl
theorem t_errAgain : (Tryd.prog.globals[7]?).map (·.type) = some 67 := by kernel_rfl
theorem g_errWasteful : Tryd.prog.globalNamed "herdsman/pack.errWasteful" = some 2 := by kernel_rfl
theorem t_errWasteful : (Tryd.prog.globals[2]?).map (·.type) = some 67 := by kernel_rfl

/-- the handle of the type 'error' -/
theorem handle_of {W : World} (h : laidMetH Tryd.prog laidL W) : W.cell? ⟨1, 0, none⟩ = some (.iface 107 (.agg #[.pointer (some ⟨8, 67, none⟩)])) := by
  have h2 := (laidMetH_iff.1 h).2
  have hm : ("errors.errorType", (Rows.laid_errors_errorType : DataW Unit)) ∈ laidL.filter fun x => x.2.handleName?.isSome := List.mem_filter.2 ⟨by rw [laidL_eq]; exact List.mem_cons_self .., rfl⟩
  obtain ⟨name, u, ty, e1, e2, e3, e4, e5⟩ := h2 _ hm
  have en : name = [101, 114, 114, 111, 114] := (Option.some.inj e1).symm
  subst en
  obtain rfl := Option.some.inj (gRt.symm.trans e2)
  have hm : ty ∈ (List.range 174).filter fun t => Tryd.prog.rowNamed t [101, 114, 114, 111, 114] := List.mem_filter.2 ⟨List.mem_range.2 (by rw [← gSize]; exact e3), e4⟩
  rw [gRow] at hm
  obtain rfl := List.mem_singleton.1 hm
  have hh : typeHandle Tryd.prog 67 = .pointer (some ⟨8, 67, none⟩) := by kernel_rfl
  rw [hh] at e5
  simpa using World.var?_cell gET e5 0
/-- two of the sentinels -/
theorem pair_of {W : World} {n0 n1 : String} {x0 x1 : List UInt8} {g0 g1 : Nat} (h : laidMetH Tryd.prog laidL W) (keep : String × DataW Unit → Bool)
    (hk : laidL.filter keep = [(n0, .iface "*errors.errorString" (.ptr (.agg [.lit (.string x0)]))), (n1, .iface "*errors.errorString" (.ptr (.agg [.lit (.string x1)])))])
    (hg0 : Tryd.prog.globalNamed n0 = some g0) (ht0 : (Tryd.prog.globals[g0]?).map (·.type) = some 67) (hg1 : Tryd.prog.globalNamed n1 = some g1) (ht1 : (Tryd.prog.globals[g1]?).map (·.type) = some 67) :
    ∃ a0 a1 : Addr, W.cell? ⟨g0, 0, none⟩ = some (.iface 141 (.pointer (some a0))) ∧ W.cell? ⟨g1, 0, none⟩ = some (.iface 141 (.pointer (some a1))) ∧ a0 ≠ a1 ∧ (∃ c t, W.heap[a0.block]? = some (.cells c t (0, 0))) ∧ ∃ c t, W.heap[a1.block]? = some (.cells c t (0, 0)) := by
  have h1 := h.filter keep
  rw [hk] at h1
  replace h1 := (laidMetH_iff.1 h1).1
  simp [DataW.handleName?] at h1
  obtain ⟨a0, a1, s0, s1, c0, c1, t0, t1, hv0, hv1, hc0, hs0, hz0, hc1, hs1, hz1, hne, hb0, hb1⟩ := laid_sentinels2 h1 hg0 ht0 hg1 ht1 Tryd.underlying67 gName Tryd.underlying141 Tryd.underlying162 rfl rfl Tryd.underlying9 gCellsE gCellsS
  exact ⟨a0, a1, by simpa using World.var?_cell hg0 hv0 0, by simpa using World.var?_cell hg1 hv1 0, hne, ⟨c0, t0, hb0⟩, c1, t1, hb1⟩
/-- WHAT THE CONDITION GIVES A WALK. -/
theorem glob_of {W : World} (h : laidMetH Tryd.prog laidL W) : ∃ a, Glob W a := by
  obtain ⟨z1, a1, v1, w1, ne1, r1, q1⟩ := pair_of h (fun x => x.1 == "herdsman/pack.errEnd" || x.1 == "herdsman/pack.errNoForm") (by rw [laidL_eq]; rfl) g_errEnd t_errEnd g_errNoForm t_errNoForm
  obtain ⟨z2, a2, v2, w2, ne2, r2, q2⟩ := pair_of h (fun x => x.1 == "herdsman/pack.errEnd" || x.1 == "herdsman/pack.errZero") (by rw [laidL_eq]; rfl) g_errEnd t_errEnd g_errZero t_errZero
  obtain ⟨z3, a3, v3, w3, ne3, r3, q3⟩ := pair_of h (fun x => x.1 == "herdsman/pack.errEnd" || x.1 == "herdsman/pack.errBeyond") (by rw [laidL_eq]; rfl) g_errEnd t_errEnd g_errBeyond t_errBeyond
  obtain ⟨z4, a4, v4, w4, ne4, r4, q4⟩ := pair_of h (fun x => x.1 == "herdsman/pack.errEnd" || x.1 == "herdsman/pack.errAgain") (by rw [laidL_eq]; rfl) g_errEnd t_errEnd g_errAgain t_errAgain
  obtain ⟨z5, a5, v5, w5, ne5, r5, q5⟩ := pair_of h (fun x => x.1 == "herdsman/pack.errEnd" || x.1 == "herdsman/pack.errWasteful") (by rw [laidL_eq]; rfl) g_errEnd t_errEnd g_errWasteful t_errWasteful
  obtain rfl : z1 = z2 := by have := v1.symm.trans v2; simpa using this
  obtain rfl : z1 = z3 := by have := v1.symm.trans v3; simpa using this
  obtain rfl : z1 = z4 := by have := v1.symm.trans v4; simpa using this
  obtain rfl : z1 = z5 := by have := v1.symm.trans v5; simpa using this
  refine ⟨fun k => if k = 0 then z1 else if k = 1 then a1 else if k = 2 then a2 else if k = 3 then a3 else if k = 4 then a4 else a5, handle_of h, ?_, ?_, ?_⟩
  · intro k hk
    rcases (by omega : k = 0 ∨ k = 1 ∨ k = 2 ∨ k = 3 ∨ k = 4 ∨ k = 5) with rfl | rfl | rfl | rfl | rfl | rfl
    · exact v1
    · exact w1
    · exact w2
    · exact w3
    · exact w4
    · exact w5
  · intro k hk
    rcases (by omega : k = 0 ∨ k = 1 ∨ k = 2 ∨ k = 3 ∨ k = 4 ∨ k = 5) with rfl | rfl | rfl | rfl | rfl | rfl
    · exact r1
    · exact q1
    · exact q2
    · exact q3
    · exact q4
    · exact q5
  · intro k h0 hk
    rcases (by omega : k = 1 ∨ k = 2 ∨ k = 3 ∨ k = 4 ∨ k = 5) with rfl | rfl | rfl | rfl | rfl
    · exact ne1.symm
    · exact ne2.symm
    · exact ne3.symm
    · exact ne4.symm
    · exact ne5.symm

end Go.Proofs.YtakmiafloolpmaaDoor
