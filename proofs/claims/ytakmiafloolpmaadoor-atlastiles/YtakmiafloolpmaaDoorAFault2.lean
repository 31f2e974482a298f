/- What errors.As answers at atlas's own kinds of error, wrapped or not; what atlas.inSector and codeOf answer. -/
import Derived.Test.YtakmiafloolpmaaDoorAFault
namespace Go.Proofs.YtakmiafloolpmaaDoor
open Go.RowKit Go.Extern.Stop Go.Stop Go.Extern
set_option maxRecDepth 20000

set_option maxHeartbeats 4000000 in
theorem at_wrap (fb : Nat) (e t : Addr) (old : Value) (w : World) (hg : w.cell? ⟨1, 0, none⟩ = some (.iface 107 (.agg #[.pointer (some ⟨8, 67, none⟩)]))) (hfb : w.cell? ⟨fb, 1, none⟩ = some (.iface 77 (.pointer (some e)))) (ht0 : w.cell? t = some old) (hf0 : w.frozen? t = false) :
    Calls Tryd.prog 57 #[.iface 103 (.pointer (some ⟨fb, 0, none⟩)), .iface 83 (.pointer (some t))] w fun ev w' => ev = .returned (.bool true) ∧ ∃ u, w' = u.setCell t (.pointer (some e)) ∧ Gr w u := by
  have f1 := atV
  have f2 := atW
  have f3 := atType
  have f4 := atMKind
  have f5 := atMElem
  have f6 := atMImpl
  have f7 := atMAss
  have f8 := atKindPP
  have f9 := atKindP
  have f10 := atElemT
  have f11 := atImpl
  have f12 := atTypeOf
  have f13 := atAss
  have f14 := wrTypeOf
  have f15 := wrAss
  have f16 := wrNoAs
  have f17 := wrUn
  have f18 := wrMUn
  have hfl : fb < w.heap.size := World.block_lt_of_cell? w ⟨fb, 1, none⟩ hfb
  have hfb3 := cell_gr hfb ((((Gr.refl w).alloc (.cells #[.pointer (some t)] 83)).alloc (.cells #[.pointer (some ⟨8, 83, none⟩), .pointer (some ⟨w.heap.size, 0, none⟩), .int .u64 150] 91)).alloc (.cells #[.pointer (some ⟨8, 83, none⟩), .pointer (some ⟨w.heap.size, 0, none⟩), .int .u64 150] 91))
  have hlt : 1 < w.heap.size := World.block_lt_of_cell? w ⟨1, 0, none⟩ hg
  have htl : t.block < w.heap.size := World.block_lt_of_cell? w t ht0
  have n8 := atIsNil ⟨w.heap.size, 0, none⟩ t ((w.alloc (.cells #[.pointer (some t)] 83)).alloc (.cells #[.pointer (some ⟨8, 83, none⟩), .pointer (some ⟨w.heap.size, 0, none⟩), .int .u64 150] 91)) (by simp)
  have hg2 : ((w.alloc (.cells #[.pointer (some t)] 83)).alloc (.cells #[.pointer (some ⟨8, 83, none⟩), .pointer (some ⟨w.heap.size, 0, none⟩), .int .u64 150] 91)).cell? ⟨1, 0, none⟩ = some (.iface 107 (.agg #[.pointer (some ⟨8, 67, none⟩)])) := cell_gr hg (((Gr.refl w).alloc _).alloc _)
  have el := atElemV ⟨w.heap.size, 0, none⟩ t (((w.alloc (.cells #[.pointer (some t)] 83)).alloc (.cells #[.pointer (some ⟨8, 83, none⟩), .pointer (some ⟨w.heap.size, 0, none⟩), .int .u64 150] 91)).alloc (.cells #[.pointer (some ⟨8, 83, none⟩), .pointer (some ⟨w.heap.size, 0, none⟩), .int .u64 150] 91)) (by rw [World.cell?_alloc_lt _ _ ⟨w.heap.size, 0, none⟩ (by simp; omega)]; simp)
  have st := atSet t ⟨w.heap.size + 1 + 1 + 1, 0, none⟩ e old ((((w.alloc (.cells #[.pointer (some t)] 83)).alloc (.cells #[.pointer (some ⟨8, 83, none⟩), .pointer (some ⟨w.heap.size, 0, none⟩), .int .u64 150] 91)).alloc (.cells #[.pointer (some ⟨8, 83, none⟩), .pointer (some ⟨w.heap.size, 0, none⟩), .int .u64 150] 91)).alloc (.cells #[.pointer (some e)] 77))
    (by rw [World.cell?_alloc_at _ _ _ _ (by simp)]; rfl)
    (by rw [World.cell?_alloc_lt _ _ t (by simp; omega), World.cell?_alloc_lt _ _ t (by simp; omega), World.cell?_alloc_lt _ _ t (by simp; omega), World.cell?_alloc_lt _ _ t htl]; exact ht0)
    (by rw [World.frozen?_alloc_old _ _ t (by simp; omega), World.frozen?_alloc_old _ _ t (by simp; omega), World.frozen?_alloc_old _ _ t (by simp; omega), World.frozen?_alloc_old _ _ t (Nat.ne_of_lt htl)]; exact hf0)
  go_enter Tryd.func57, Tryd.ntmps57
  go_wp2
  refine wp_loop_rounds 2 ?_
  rw [rounds_succ]
  go_wp2_with (go_at_call 113; refine (unwrap_any fb _ _ hfb3).mono ?_; rintro e w' ⟨rfl, hw'⟩; subst hw')
  rw [rounds_succ]
  go_wp2
  exact bodyPost_ret (v := .bool true) (by simp [results, Tryd.results57, go_sem]) rfl ⟨rfl, _, rfl, ((((Gr.refl w).alloc _).alloc _).alloc _).alloc _⟩

set_option maxHeartbeats 1000000 in
theorem inSector_any (s : Int) (b : Nat) (w : World) :
    Calls Tryd.prog 66 #[.int .i64 s, .iface 77 (.pointer (some ⟨b, 0, none⟩))] w fun r w' => (∃ fb, r = .returned (.iface 103 (.pointer (some ⟨fb, 0, none⟩))) ∧ w'.cell? ⟨fb, 1, none⟩ = some (.iface 77 (.pointer (some ⟨b, 0, none⟩))) ∧ fb < w'.heap.size) ∧ Gr w w' := by
  go_enter Tryd.func66, Tryd.ntmps66
  go_wp2
  go_ret
  exact ⟨⟨_, rfl, by simp [go_sem], by simp [go_sem]⟩, (by repeat (first | exact Gr.refl _ | assumption | exact Dr.gr (by assumption) | refine Gr.alloc ?_ _ | refine Gr.drewN ?_ _ | refine Gr.drew ?_ | refine Gr.trans ?_ (by assumption) | refine Gr.trans ?_ (Dr.gr (by assumption))))⟩

set_option maxHeartbeats 1000000 in
theorem acode_nil (w : World) : Calls Tryd.prog 43 #[.nilIface] w fun e w' => e = .returned (.int .i64 0) ∧ Gr w w' := by
  go_enter Tryd.func43, Tryd.ntmps43
  go_wp2_with (go_at_call 57; refine (as_nil _ _).mono ?_; rintro e w1 ⟨rfl, hw1⟩; subst hw1)
  go_ret
  exact ⟨rfl, (by repeat (first | exact Gr.refl _ | assumption | exact Dr.gr (by assumption) | refine Gr.alloc ?_ _ | refine Gr.drewN ?_ _ | refine Gr.drew ?_ | refine Gr.trans ?_ (by assumption) | refine Gr.trans ?_ (Dr.gr (by assumption))))⟩

set_option maxHeartbeats 1000000 in
theorem acode_hit (b : Nat) (c : Int) (a : Nat → Addr) (w : World) (hw : Glob w a) (hc : w.cell? ⟨b, 0, none⟩ = some (.int .i64 c)) :
    Calls Tryd.prog 43 #[.iface 77 (.pointer (some ⟨b, 0, none⟩))] w fun e w' => e = .returned (.int .i64 c) ∧ Gr w w' := by
  have hb := World.block_lt_of_cell? w ⟨b, 0, none⟩ hc
  have hb' : b < w.heap.size := hb
  have hg1 := (hw.gr ((Gr.refl w).alloc (.cells #[.pointer none] 77))).et
  have ht1 : (w.alloc (.cells #[.pointer none] 77)).cell? ⟨w.heap.size, 0, none⟩ = some (.pointer none) := by simp
  have hf1 : (w.alloc (.cells #[.pointer none] 77)).frozen? ⟨w.heap.size, 0, none⟩ = false := by simp
  go_enter Tryd.func43, Tryd.ntmps43
  go_wp2_with (go_at_call 57; refine (at_hit _ _ (.pointer none) _ hg1 ht1 hf1).mono ?_; rintro e w1 ⟨rfl, u, hw1, hgu⟩; subst hw1; have k1 := World.cell?_setCell_same u ⟨w.heap.size, 0, none⟩ (.pointer (some ⟨b, 0, none⟩)) (cell_gr ht1 hgu); have k2 : (u.setCell ⟨w.heap.size, 0, none⟩ (.pointer (some ⟨b, 0, none⟩))).cell? ⟨b, 0, none⟩ = some (.int .i64 c) := (by rw [World.cell?_setCell_far _ _ _ _ (by show ¬ _; intro e; simp at e; omega)]; exact cell_gr hc (((Gr.refl w).alloc _).trans hgu)))
  go_ret
  exact ⟨rfl, (((Gr.refl w).alloc _).trans hgu).set (p := ⟨w.heap.size, 0, none⟩) (Nat.le_refl _) _⟩

set_option maxHeartbeats 1000000 in
theorem acode_wrap (fb b : Nat) (c : Int) (a : Nat → Addr) (w : World) (hw : Glob w a) (hf : w.cell? ⟨fb, 1, none⟩ = some (.iface 77 (.pointer (some ⟨b, 0, none⟩)))) (hc : w.cell? ⟨b, 0, none⟩ = some (.int .i64 c)) :
    Calls Tryd.prog 43 #[.iface 103 (.pointer (some ⟨fb, 0, none⟩))] w fun e w' => e = .returned (.int .i64 c) ∧ Gr w w' := by
  have hb := World.block_lt_of_cell? w ⟨b, 0, none⟩ hc
  have hb' : b < w.heap.size := hb
  have hg1 := (hw.gr ((Gr.refl w).alloc (.cells #[.pointer none] 77))).et
  have ht1 : (w.alloc (.cells #[.pointer none] 77)).cell? ⟨w.heap.size, 0, none⟩ = some (.pointer none) := by simp
  have hf1 : (w.alloc (.cells #[.pointer none] 77)).frozen? ⟨w.heap.size, 0, none⟩ = false := by simp
  have hff := cell_gr hf ((Gr.refl w).alloc (.cells #[.pointer none] 77))
  go_enter Tryd.func43, Tryd.ntmps43
  go_wp2_with (go_at_call 57; refine (at_wrap fb _ _ (.pointer none) _ hg1 hff ht1 hf1).mono ?_; rintro e w1 ⟨rfl, u, hw1, hgu⟩; subst hw1; have k1 := World.cell?_setCell_same u ⟨w.heap.size, 0, none⟩ (.pointer (some ⟨b, 0, none⟩)) (cell_gr ht1 hgu); have k2 : (u.setCell ⟨w.heap.size, 0, none⟩ (.pointer (some ⟨b, 0, none⟩))).cell? ⟨b, 0, none⟩ = some (.int .i64 c) := (by rw [World.cell?_setCell_far _ _ _ _ (by show ¬ _; intro e; simp at e; omega)]; exact cell_gr hc (((Gr.refl w).alloc _).trans hgu)))
  go_ret
  exact ⟨rfl, (((Gr.refl w).alloc _).trans hgu).set (p := ⟨w.heap.size, 0, none⟩) (Nat.le_refl _) _⟩

end Go.Proofs.YtakmiafloolpmaaDoor
