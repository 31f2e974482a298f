/- What pack.faultAt and pack.codeOf answer, where the package's variables hold what its text lays. -/
import Derived.Test.YtakmiafloolpmaaDoorEAs
namespace Go.Proofs.YtakmiafloolpmaaDoor
open Go.RowKit Go.Extern.Stop Go.Stop Go.Extern
set_option maxRecDepth 20000

set_option maxHeartbeats 4000000 in
theorem as_hit (e t : Addr) (old : Value) (w : World) (hg : w.cell? ⟨1, 0, none⟩ = some (.iface 107 (.agg #[.pointer (some ⟨8, 67, none⟩)]))) (ht0 : w.cell? t = some old) (hf0 : w.frozen? t = false) :
    Calls Tryd.prog 57 #[.iface 122 (.pointer (some e)), .iface 123 (.pointer (some t))] w fun ev w' => ev = .returned (.bool true) ∧ ∃ u, w' = u.setCell t (.pointer (some e)) ∧ Gr w u := by
  have f1 := asV
  have f2 := asW
  have f3 := asType
  have f4 := asMKind
  have f5 := asMElem
  have f6 := asMImpl
  have f7 := asMAss
  have f8 := asKindPP
  have f9 := asKindP
  have f10 := asElemT
  have f11 := asImpl
  have f12 := asTypeOf
  have f13 := asAss
  have hlt : 1 < w.heap.size := World.block_lt_of_cell? w ⟨1, 0, none⟩ hg
  have htl : t.block < w.heap.size := World.block_lt_of_cell? w t ht0
  have n8 := asIsNil ⟨w.heap.size, 0, none⟩ t ((w.alloc (.cells #[.pointer (some t)] 123)).alloc (.cells #[.pointer (some ⟨8, 123, none⟩), .pointer (some ⟨w.heap.size, 0, none⟩), .int .u64 150] 91)) (by simp)
  have hg2 : ((w.alloc (.cells #[.pointer (some t)] 123)).alloc (.cells #[.pointer (some ⟨8, 123, none⟩), .pointer (some ⟨w.heap.size, 0, none⟩), .int .u64 150] 91)).cell? ⟨1, 0, none⟩ = some (.iface 107 (.agg #[.pointer (some ⟨8, 67, none⟩)])) := cell_gr hg (((Gr.refl w).alloc _).alloc _)
  have el := asElemV ⟨w.heap.size, 0, none⟩ t (((w.alloc (.cells #[.pointer (some t)] 123)).alloc (.cells #[.pointer (some ⟨8, 123, none⟩), .pointer (some ⟨w.heap.size, 0, none⟩), .int .u64 150] 91)).alloc (.cells #[.pointer (some ⟨8, 123, none⟩), .pointer (some ⟨w.heap.size, 0, none⟩), .int .u64 150] 91)) (by rw [World.cell?_alloc_lt _ _ ⟨w.heap.size, 0, none⟩ (by simp; omega)]; simp)
  have st := asSet t ⟨w.heap.size + 1 + 1 + 1, 0, none⟩ e old ((((w.alloc (.cells #[.pointer (some t)] 123)).alloc (.cells #[.pointer (some ⟨8, 123, none⟩), .pointer (some ⟨w.heap.size, 0, none⟩), .int .u64 150] 91)).alloc (.cells #[.pointer (some ⟨8, 123, none⟩), .pointer (some ⟨w.heap.size, 0, none⟩), .int .u64 150] 91)).alloc (.cells #[.pointer (some e)] 122))
    (by rw [World.cell?_alloc_at _ _ _ _ (by simp)]; rfl)
    (by rw [World.cell?_alloc_lt _ _ t (by simp; omega), World.cell?_alloc_lt _ _ t (by simp; omega), World.cell?_alloc_lt _ _ t (by simp; omega), World.cell?_alloc_lt _ _ t htl]; exact ht0)
    (by rw [World.frozen?_alloc_old _ _ t (by simp; omega), World.frozen?_alloc_old _ _ t (by simp; omega), World.frozen?_alloc_old _ _ t (by simp; omega), World.frozen?_alloc_old _ _ t (Nat.ne_of_lt htl)]; exact hf0)
  go_enter Tryd.func57, Tryd.ntmps57
  go_wp2
  refine wp_loop_rounds 1 ?_
  rw [rounds_succ]
  go_wp2
  go_ret
  exact ⟨rfl, _, rfl, ((((Gr.refl w).alloc _).alloc _).alloc _).alloc _⟩

/-- the package's six sentinels: where each lies -/
def sentG (k : Nat) : Nat := if k = 0 then 3 else if k = 1 then 4 else if k = 2 then 5 else if k = 3 then 6 else if k = 4 then 7 else 2
/-- The package's variables hold what its text lays: the k-th sentinel lies at a k. -/
structure Glob (w : World) (a : Nat → Addr) : Prop where
  et : w.cell? ⟨1, 0, none⟩ = some (.iface 107 (.agg #[.pointer (some ⟨8, 67, none⟩)]))
  val : ∀ k, k < 6 → w.cell? ⟨sentG k, 0, none⟩ = some (.iface 141 (.pointer (some (a k))))
  row : ∀ k, k < 6 → ∃ c t, w.heap[(a k).block]? = some (.cells c t (0, 0))
  ne : ∀ k, 0 < k → k < 6 → a k ≠ a 0
theorem Glob.gr {w w' : World} {a : Nat → Addr} (h : Glob w a) (g : Gr w w') : Glob w' a :=
  ⟨cell_gr h.et g, fun k hk => cell_gr (h.val k hk) g, fun k hk => by
    obtain ⟨c, t, e⟩ := h.row k hk
    exact ⟨c, t, (Below.block g _ (Array.getElem?_eq_some_iff.1 e).1).trans e⟩, h.ne⟩

/-- the code of the k-th sentinel -/
def sentC (k : Nat) : Int := if k = 0 then 2 else 3
set_option maxHeartbeats 1000000 in
theorem faultAt_any (k : Nat) (at_ : Int) (a : Nat → Addr) (w : World) (hw : Glob w a) (hk : k < 6) :
    Calls Tryd.prog 79 #[.int .i64 at_, .iface 141 (.pointer (some (a k)))] w fun e w' => (∃ b, e = .returned (.iface 122 (.pointer (some ⟨b, 0, none⟩))) ∧ w'.cell? ⟨b, 1, none⟩ = some (.int .i64 (sentC k)) ∧ b < w'.heap.size) ∧ Gr w w' := by
  have h0 := hw.val 0 (by omega)
  have hs0 : sentG 0 = 3 := rfl
  rw [hs0] at h0
  by_cases hz : k = 0
  · subst hz
    have E : sentC 0 = 2 := rfl
    rw [E]
    clear E hs0
    go_enter Tryd.func79, Tryd.ntmps79
    go_wp2_with (go_at_call 83; refine (is_same _ _).mono ?_; rintro e w1 ⟨rfl, hw1⟩; subst hw1)
    go_ret
    exact ⟨⟨_, rfl, by simp [go_sem], by simp [go_sem]⟩, (by repeat (first | exact Gr.refl _ | assumption | exact Dr.gr (by assumption) | refine Gr.alloc ?_ _ | refine Gr.drewN ?_ _ | refine Gr.drew ?_ | refine Gr.trans ?_ (by assumption) | refine Gr.trans ?_ (Dr.gr (by assumption))))⟩
  · have E : sentC k = 3 := by simp [sentC, hz]
    rw [E]
    have hne := hw.ne k (by omega) hk
    obtain ⟨ca, ta, ha⟩ := hw.row k hk
    obtain ⟨cb, tb, hb⟩ := hw.row 0 (by omega)
    have HN := hide hne
    have HA := hide ha
    have HB := hide hb
    clear E hs0 hne ha hb
    go_enter Tryd.func79, Tryd.ntmps79
    go_wp2_with (go_at_call 83; refine (is_other _ _ _ _ _ _ _ HN.out HA.out HB.out).mono ?_; rintro e w1 ⟨rfl, hw1⟩; subst hw1)
    go_ret
    exact ⟨⟨_, rfl, by simp [go_sem], by simp [go_sem]⟩, (by repeat (first | exact Gr.refl _ | assumption | exact Dr.gr (by assumption) | refine Gr.alloc ?_ _ | refine Gr.drewN ?_ _ | refine Gr.drew ?_ | refine Gr.trans ?_ (by assumption) | refine Gr.trans ?_ (Dr.gr (by assumption))))⟩

set_option maxHeartbeats 1000000 in
theorem codeOf_nil (w : World) : Calls Tryd.prog 74 #[.nilIface] w fun e w' => e = .returned (.int .i64 0) ∧ Gr w w' := by
  go_enter Tryd.func74, Tryd.ntmps74
  go_wp2_with (go_at_call 57; refine (as_nil _ _).mono ?_; rintro e w1 ⟨rfl, hw1⟩; subst hw1)
  go_ret
  exact ⟨rfl, (by repeat (first | exact Gr.refl _ | assumption | exact Dr.gr (by assumption) | refine Gr.alloc ?_ _ | refine Gr.drewN ?_ _ | refine Gr.drew ?_ | refine Gr.trans ?_ (by assumption) | refine Gr.trans ?_ (Dr.gr (by assumption))))⟩

set_option maxHeartbeats 1000000 in
theorem codeOf_hit (b : Nat) (c : Int) (a : Nat → Addr) (w : World) (hw : Glob w a) (hc : w.cell? ⟨b, 1, none⟩ = some (.int .i64 c)) :
    Calls Tryd.prog 74 #[.iface 122 (.pointer (some ⟨b, 0, none⟩))] w fun e w' => e = .returned (.int .i64 c) ∧ Gr w w' := by
  have hb := World.block_lt_of_cell? w ⟨b, 1, none⟩ hc
  have hb' : b < w.heap.size := hb
  have hg1 := (hw.gr ((Gr.refl w).alloc (.cells #[.pointer none] 122))).et
  have ht1 : (w.alloc (.cells #[.pointer none] 122)).cell? ⟨w.heap.size, 0, none⟩ = some (.pointer none) := by simp
  have hf1 : (w.alloc (.cells #[.pointer none] 122)).frozen? ⟨w.heap.size, 0, none⟩ = false := by simp
  go_enter Tryd.func74, Tryd.ntmps74
  go_wp2_with (go_at_call 57; refine (as_hit _ _ (.pointer none) _ hg1 ht1 hf1).mono ?_; rintro e w1 ⟨rfl, u, hw1, hgu⟩; subst hw1; have k1 := World.cell?_setCell_same u ⟨w.heap.size, 0, none⟩ (.pointer (some ⟨b, 0, none⟩)) (cell_gr ht1 hgu); have k2 : (u.setCell ⟨w.heap.size, 0, none⟩ (.pointer (some ⟨b, 0, none⟩))).cell? ⟨b, 1, none⟩ = some (.int .i64 c) := (by rw [World.cell?_setCell_far _ _ _ _ (by show ¬ _; intro e; simp at e; omega)]; exact cell_gr hc (((Gr.refl w).alloc _).trans hgu)))
  go_ret
  exact ⟨rfl, (((Gr.refl w).alloc _).trans hgu).set (p := ⟨w.heap.size, 0, none⟩) (Nat.le_refl _) _⟩

end Go.Proofs.YtakmiafloolpmaaDoor
