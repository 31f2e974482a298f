/- What errors.As answers at atlas's own kinds of error, wrapped or not; what atlas.inSector and codeOf answer. -/
import Derived.Test.YtakmiafloolpmaaDoorEFault
namespace Go.Proofs.YtakmiafloolpmaaDoor
open Go.RowKit Go.Extern.Stop Go.Stop Go.Extern
set_option maxRecDepth 20000

theorem atV0 (t : Addr) (w : World) : (ReflectliteValue.unpack (.iface 83 (.pointer (some t)))).run Tryd.prog w
    = .ok (.agg #[.pointer (some ⟨8, 83, none⟩), .pointer (some ⟨w.heap.size, 0, none⟩), .int .u64 150]) (w.alloc (.cells #[.pointer (some t)] 83)) := by kernel_rfl
theorem atV (t : Addr) (w : World) : (callFunc 67 #[.iface 83 (.pointer (some t))]).run Tryd.prog w
    = .ok (.value (.agg #[.pointer (some ⟨8, 83, none⟩), .pointer (some ⟨w.heap.size, 0, none⟩), .int .u64 150])) (w.alloc (.cells #[.pointer (some t)] 83)) := by
  rw [run_callFunc_extern Tryd.func67 (by kernel_rfl) (by kernel_rfl) (by kernel_rfl) (e := fun args => ReflectliteValue.unpack (args.getD 0 (.tuple #[]))) (by kernel_rfl)]
  exact congrArg (fun r => Result.andThen r fun v w' => Result.ok (Next.value v) w') (atV0 t w)
theorem atW0 (e : Addr) (w : World) : (ReflectliteValue.unpack (.iface 77 (.pointer (some e)))).run Tryd.prog w
    = .ok (.agg #[.pointer (some ⟨8, 77, none⟩), .pointer (some ⟨w.heap.size, 0, none⟩), .int .u64 150]) (w.alloc (.cells #[.pointer (some e)] 77)) := by kernel_rfl
theorem atW (e : Addr) (w : World) : (callFunc 67 #[.iface 77 (.pointer (some e))]).run Tryd.prog w
    = .ok (.value (.agg #[.pointer (some ⟨8, 77, none⟩), .pointer (some ⟨w.heap.size, 0, none⟩), .int .u64 150])) (w.alloc (.cells #[.pointer (some e)] 77)) := by
  rw [run_callFunc_extern Tryd.func67 (by kernel_rfl) (by kernel_rfl) (by kernel_rfl) (e := fun args => ReflectliteValue.unpack (args.getD 0 (.tuple #[]))) (by kernel_rfl)]
  exact congrArg (fun r => Result.andThen r fun v w' => Result.ok (Next.value v) w') (atW0 e w)
theorem atType0 (a : Addr) (w : World) : (ReflectliteValue.methodAny (ReflectliteValue.valueError "reflectlite.Value.Type" 0) (fun t _ _ _ => ReflectliteType.toType t) #[.agg #[.pointer (some ⟨8, 83, none⟩), .pointer (some a), .int .u64 150]]).run Tryd.prog w
    = .ok (.iface 107 (.agg #[.pointer (some ⟨8, 83, none⟩)])) w := by kernel_rfl
theorem atType (a : Addr) (w : World) : (callFunc 68 #[.agg #[.pointer (some ⟨8, 83, none⟩), .pointer (some a), .int .u64 150]]).run Tryd.prog w
    = .ok (.value (.iface 107 (.agg #[.pointer (some ⟨8, 83, none⟩)]))) w := by
  rw [run_callFunc_extern Tryd.func68 (by kernel_rfl) (by kernel_rfl) (by kernel_rfl) (e := ReflectliteValue.methodAny (ReflectliteValue.valueError "reflectlite.Value.Type" 0) (fun t _ _ _ => ReflectliteType.toType t)) (by kernel_rfl), atType0]
  rfl
theorem atMKind (h : Value) (w : World) : (Go.method 274 107 (.agg #[h]) "Kind").run Tryd.prog w = .ok (105, h) w := by kernel_rfl
theorem atMElem (h : Value) (w : World) : (Go.method 274 107 (.agg #[h]) "Elem").run Tryd.prog w = .ok (117, .agg #[h]) w := by kernel_rfl
theorem atMImpl (h : Value) (w : World) : (Go.method 274 107 (.agg #[h]) "Implements").run Tryd.prog w = .ok (118, .agg #[h]) w := by kernel_rfl
theorem atMAss (h : Value) (w : World) : (Go.method 274 107 (.agg #[h]) "AssignableTo").run Tryd.prog w = .ok (115, .agg #[h]) w := by kernel_rfl
theorem atKindPP0 (w : World) : ((ReflectliteType.abiMethod fun t => do pure (.int .u8 (← Rtype.kind t))) #[.pointer (some ⟨8, 83, none⟩)]).run Tryd.prog w = .ok (.int .u8 22) w := by kernel_rfl
theorem atKindP0 (w : World) : ((ReflectliteType.abiMethod fun t => do pure (.int .u8 (← Rtype.kind t))) #[.pointer (some ⟨8, 77, none⟩)]).run Tryd.prog w = .ok (.int .u8 22) w := by kernel_rfl
theorem atKindPP (w : World) : (callFunc 105 #[.pointer (some ⟨8, 83, none⟩)]).run Tryd.prog w = .ok (.value (.int .u8 22)) w := by
  rw [run_callFunc_extern Tryd.func105 (by kernel_rfl) (by kernel_rfl) (by kernel_rfl) (e := ReflectliteType.abiMethod fun t => do pure (.int .u8 (← Rtype.kind t))) (by kernel_rfl), atKindPP0]
  rfl
theorem atKindP (w : World) : (callFunc 105 #[.pointer (some ⟨8, 77, none⟩)]).run Tryd.prog w = .ok (.value (.int .u8 22)) w := by
  rw [run_callFunc_extern Tryd.func105 (by kernel_rfl) (by kernel_rfl) (by kernel_rfl) (e := ReflectliteType.abiMethod fun t => do pure (.int .u8 (← Rtype.kind t))) (by kernel_rfl), atKindP0]
  rfl
theorem atElemT0 (w : World) : (ReflectliteType.method ReflectliteType.elem #[.agg #[.pointer (some ⟨8, 83, none⟩)]]).run Tryd.prog w = .ok (.iface 107 (.agg #[.pointer (some ⟨8, 77, none⟩)])) w := by kernel_rfl
theorem atElemT (w : World) : (callFunc 117 #[.agg #[.pointer (some ⟨8, 83, none⟩)]]).run Tryd.prog w = .ok (.value (.iface 107 (.agg #[.pointer (some ⟨8, 77, none⟩)]))) w := by
  rw [run_callFunc_extern Tryd.func117 (by kernel_rfl) (by kernel_rfl) (by kernel_rfl) (e := ReflectliteType.method ReflectliteType.elem) (by kernel_rfl), atElemT0]
  rfl
theorem atImpl0 (w : World) : (ReflectliteType.relation "Implements" ReflectliteType.implements_ #[.agg #[.pointer (some ⟨8, 77, none⟩)], .iface 107 (.agg #[.pointer (some ⟨8, 67, none⟩)])]).run Tryd.prog w = .ok (.bool true) w := by kernel_rfl
theorem atImpl (w : World) : (callFunc 118 #[.agg #[.pointer (some ⟨8, 77, none⟩)], .iface 107 (.agg #[.pointer (some ⟨8, 67, none⟩)])]).run Tryd.prog w = .ok (.value (.bool true)) w := by
  rw [run_callFunc_extern Tryd.func118 (by kernel_rfl) (by kernel_rfl) (by kernel_rfl) (e := ReflectliteType.relation "Implements" ReflectliteType.implements_) (by kernel_rfl), atImpl0]
  rfl
theorem atTypeOf0 (v : Value) (w : World) : (ReflectliteType.typeOf #[.iface 77 v]).run Tryd.prog w = .ok (.iface 107 (.agg #[.pointer (some ⟨8, 77, none⟩)])) w := by kernel_rfl
theorem atTypeOf (v : Value) (w : World) : (callFunc 75 #[.iface 77 v]).run Tryd.prog w = .ok (.value (.iface 107 (.agg #[.pointer (some ⟨8, 77, none⟩)]))) w := by
  rw [run_callFunc_extern Tryd.func75 (by kernel_rfl) (by kernel_rfl) (by kernel_rfl) (e := ReflectliteType.typeOf) (by kernel_rfl), atTypeOf0]
  rfl
theorem atAss0 (w : World) : (ReflectliteType.relation "AssignableTo" ReflectliteType.assignableTo #[.agg #[.pointer (some ⟨8, 77, none⟩)], .iface 107 (.agg #[.pointer (some ⟨8, 77, none⟩)])]).run Tryd.prog w = .ok (.bool true) w := by kernel_rfl
theorem atAss (w : World) : (callFunc 115 #[.agg #[.pointer (some ⟨8, 77, none⟩)], .iface 107 (.agg #[.pointer (some ⟨8, 77, none⟩)])]).run Tryd.prog w = .ok (.value (.bool true)) w := by
  rw [run_callFunc_extern Tryd.func115 (by kernel_rfl) (by kernel_rfl) (by kernel_rfl) (e := ReflectliteType.relation "AssignableTo" ReflectliteType.assignableTo) (by kernel_rfl), atAss0]
  rfl

/-! the entries that read or write memory -/
theorem atPartsPP (a : Addr) (w : World) : (ReflectliteValue.parts (.agg #[.pointer (some ⟨8, 83, none⟩), .pointer (some a), .int .u64 150])).run Tryd.prog w = .ok (some (83, a, 150)) w := by kernel_rfl
theorem atIsNil (a p : Addr) (W : World) (ha : W.cell? a = some (.pointer (some p))) :
    (callFunc 69 #[.agg #[.pointer (some ⟨8, 83, none⟩), .pointer (some a), .int .u64 150]]).run Tryd.prog W = .ok (.value (.bool false)) W := by
  rw [run_callFunc_extern Tryd.func69 (by kernel_rfl) (by kernel_rfl) (by kernel_rfl) (e := ReflectliteValue.method (ReflectliteValue.valueError "reflectlite.Value.IsNil" 0) ReflectliteValue.isNil) (by kernel_rfl), rlm]
  simp only [Sem.run_bind, atPartsPP, Result.andThen]
  simp [ReflectliteValue.isNil, loadVar, isAgg, underlying, Tryd.underlying83, ha, Result.andThen]
theorem atElemOf (w : World) : (Rtype.elem? 83).run Tryd.prog w = .ok (some 77) w := by kernel_rfl
theorem atMk (p : Addr) (w : World) : (ReflectliteValue.mk 77 p ReflectliteValue.flagAddr).run Tryd.prog w = .ok (.agg #[.pointer (some ⟨8, 77, none⟩), .pointer (some p), .int .u64 406]) w := by kernel_rfl
theorem atElemV (a p : Addr) (W : World) (ha : W.cell? a = some (.pointer (some p))) :
    (callFunc 76 #[.agg #[.pointer (some ⟨8, 83, none⟩), .pointer (some a), .int .u64 150]]).run Tryd.prog W
      = .ok (.value (.agg #[.pointer (some ⟨8, 77, none⟩), .pointer (some p), .int .u64 406])) W := by
  rw [run_callFunc_extern Tryd.func76 (by kernel_rfl) (by kernel_rfl) (by kernel_rfl) (e := ReflectliteValue.method (ReflectliteValue.valueError "reflectlite.Value.Elem" 0) ReflectliteValue.elem) (by kernel_rfl), rlm]
  simp only [Sem.run_bind, atPartsPP, Result.andThen]
  simp [ReflectliteValue.elem, loadVar, isAgg, underlying, Tryd.underlying83, ha, Result.andThen, atElemOf, atMk]
theorem atPartsA (a : Addr) (w : World) : (ReflectliteValue.parts (.agg #[.pointer (some ⟨8, 77, none⟩), .pointer (some a), .int .u64 406])).run Tryd.prog w = .ok (some (77, a, 406)) w := by kernel_rfl
theorem atPartsP (a : Addr) (w : World) : (ReflectliteValue.parts (.agg #[.pointer (some ⟨8, 77, none⟩), .pointer (some a), .int .u64 150])).run Tryd.prog w = .ok (some (77, a, 150)) w := by kernel_rfl
theorem atDirect (w : World) : (Rtype.directlyAssignable 77 77).run Tryd.prog w = .ok true w := by kernel_rfl
theorem atSet (ta b e : Addr) (old : Value) (W : World) (hb : W.cell? b = some (.pointer (some e))) (ht : W.cell? ta = some old) (hf : W.frozen? ta = false) :
    (callFunc 77 #[.agg #[.pointer (some ⟨8, 77, none⟩), .pointer (some ta), .int .u64 406], .agg #[.pointer (some ⟨8, 77, none⟩), .pointer (some b), .int .u64 150]]).run Tryd.prog W
      = .ok (.value (.tuple #[])) (W.setCell ta (.pointer (some e))) := by
  rw [run_callFunc_extern Tryd.func77 (by kernel_rfl) (by kernel_rfl) (by kernel_rfl) (e := ReflectliteValue.set) (by kernel_rfl), rls]
  simp only [Sem.run_bind, atPartsA, atPartsP, Result.andThen]
  simp [ReflectliteValue.flagAddr, loadVar, isAgg, underlying, Tryd.underlying77, hb, Result.andThen, atDirect, storeVar, Value.cells, storeCells, Addr.add]
  rw [run_store Tryd.prog W ta _ _ (by rfl)]
  simp [ht, hf]

theorem wrTypeOf0 (v : Value) (w : World) : (ReflectliteType.typeOf #[.iface 103 v]).run Tryd.prog w = .ok (.iface 107 (.agg #[.pointer (some ⟨8, 103, none⟩)])) w := by kernel_rfl
theorem wrTypeOf (v : Value) (w : World) : (callFunc 75 #[.iface 103 v]).run Tryd.prog w = .ok (.value (.iface 107 (.agg #[.pointer (some ⟨8, 103, none⟩)]))) w := by
  rw [run_callFunc_extern Tryd.func75 (by kernel_rfl) (by kernel_rfl) (by kernel_rfl) (e := ReflectliteType.typeOf) (by kernel_rfl), wrTypeOf0]
  rfl
theorem wrAss0 (w : World) : (ReflectliteType.relation "AssignableTo" ReflectliteType.assignableTo #[.agg #[.pointer (some ⟨8, 103, none⟩)], .iface 107 (.agg #[.pointer (some ⟨8, 77, none⟩)])]).run Tryd.prog w = .ok (.bool false) w := by kernel_rfl
theorem wrAss (w : World) : (callFunc 115 #[.agg #[.pointer (some ⟨8, 103, none⟩)], .iface 107 (.agg #[.pointer (some ⟨8, 77, none⟩)])]).run Tryd.prog w = .ok (.value (.bool false)) w := by
  rw [run_callFunc_extern Tryd.func115 (by kernel_rfl) (by kernel_rfl) (by kernel_rfl) (e := ReflectliteType.relation "AssignableTo" ReflectliteType.assignableTo) (by kernel_rfl), wrAss0]
  rfl
theorem wrNoAs (v : Value) (xT : TypeId) (w : World) : (Instr.typeAssert (.iface 103 v) xT 112 true).run Tryd.prog w = .ok (.tuple #[.nilIface, .bool false]) w := run_typeAssert_lacksB Tryd.underlying112 (by kernel_rfl) (by kernel_rfl) v xT w
theorem wrUn (v : Value) (xT : TypeId) (w : World) : (Instr.typeAssert (.iface 103 v) xT 115 true).run Tryd.prog w = .ok (.tuple #[.iface 103 v, .bool true]) w := run_typeAssert_hasB Tryd.underlying115 (by kernel_rfl) v xT w
theorem wrMUn (v : Value) (w : World) : (Go.method 274 103 v "Unwrap").run Tryd.prog w = .ok (113, v) w := by kernel_rfl
set_option maxHeartbeats 400000 in
theorem unwrap_any (fb : Nat) (v : Value) (w : World) (h : w.cell? ⟨fb, 1, none⟩ = some v) :
    Calls Tryd.prog 113 #[.pointer (some ⟨fb, 0, none⟩)] w fun e w' => e = .returned v ∧ w' = w := by
  go_enter Tryd.func113, Tryd.ntmps113
  go_wp2
  go_ret
  exact ⟨rfl, rfl⟩

set_option maxHeartbeats 4000000 in
theorem at_hit (e t : Addr) (old : Value) (w : World) (hg : w.cell? ⟨1, 0, none⟩ = some (.iface 107 (.agg #[.pointer (some ⟨8, 67, none⟩)]))) (ht0 : w.cell? t = some old) (hf0 : w.frozen? t = false) :
    Calls Tryd.prog 57 #[.iface 77 (.pointer (some e)), .iface 83 (.pointer (some t))] w fun ev w' => ev = .returned (.bool true) ∧ ∃ u, w' = u.setCell t (.pointer (some e)) ∧ Gr w u := by
  have f1 := atV
  have f2 := atW
  have f3 := atType
  have f4 := atMKind
  have f5 := atMElem
  have f6 := atMImpl
  have f7 := atMAss
  have f8 := atKindPP
  have f9 := atKindP
  have f10 := atElemT
  have f11 := atImpl
  have f12 := atTypeOf
  have f13 := atAss
  have hlt : 1 < w.heap.size := World.block_lt_of_cell? w ⟨1, 0, none⟩ hg
  have htl : t.block < w.heap.size := World.block_lt_of_cell? w t ht0
  have n8 := atIsNil ⟨w.heap.size, 0, none⟩ t ((w.alloc (.cells #[.pointer (some t)] 83)).alloc (.cells #[.pointer (some ⟨8, 83, none⟩), .pointer (some ⟨w.heap.size, 0, none⟩), .int .u64 150] 91)) (by simp)
  have hg2 : ((w.alloc (.cells #[.pointer (some t)] 83)).alloc (.cells #[.pointer (some ⟨8, 83, none⟩), .pointer (some ⟨w.heap.size, 0, none⟩), .int .u64 150] 91)).cell? ⟨1, 0, none⟩ = some (.iface 107 (.agg #[.pointer (some ⟨8, 67, none⟩)])) := cell_gr hg (((Gr.refl w).alloc _).alloc _)
  have el := atElemV ⟨w.heap.size, 0, none⟩ t (((w.alloc (.cells #[.pointer (some t)] 83)).alloc (.cells #[.pointer (some ⟨8, 83, none⟩), .pointer (some ⟨w.heap.size, 0, none⟩), .int .u64 150] 91)).alloc (.cells #[.pointer (some ⟨8, 83, none⟩), .pointer (some ⟨w.heap.size, 0, none⟩), .int .u64 150] 91)) (by rw [World.cell?_alloc_lt _ _ ⟨w.heap.size, 0, none⟩ (by simp; omega)]; simp)
  have st := atSet t ⟨w.heap.size + 1 + 1 + 1, 0, none⟩ e old ((((w.alloc (.cells #[.pointer (some t)] 83)).alloc (.cells #[.pointer (some ⟨8, 83, none⟩), .pointer (some ⟨w.heap.size, 0, none⟩), .int .u64 150] 91)).alloc (.cells #[.pointer (some ⟨8, 83, none⟩), .pointer (some ⟨w.heap.size, 0, none⟩), .int .u64 150] 91)).alloc (.cells #[.pointer (some e)] 77))
    (by rw [World.cell?_alloc_at _ _ _ _ (by simp)]; rfl)
    (by rw [World.cell?_alloc_lt _ _ t (by simp; omega), World.cell?_alloc_lt _ _ t (by simp; omega), World.cell?_alloc_lt _ _ t (by simp; omega), World.cell?_alloc_lt _ _ t htl]; exact ht0)
    (by rw [World.frozen?_alloc_old _ _ t (by simp; omega), World.frozen?_alloc_old _ _ t (by simp; omega), World.frozen?_alloc_old _ _ t (by simp; omega), World.frozen?_alloc_old _ _ t (Nat.ne_of_lt htl)]; exact hf0)
  go_enter Tryd.func57, Tryd.ntmps57
  go_wp2
  refine wp_loop_rounds 1 ?_
  rw [rounds_succ]
  go_wp2
  go_ret
  exact ⟨rfl, _, rfl, ((((Gr.refl w).alloc _).alloc _).alloc _).alloc _⟩

end Go.Proofs.YtakmiafloolpmaaDoor
