/- What bytes.Clone, bytes.Equal, tile.With, tile.Same, tile.Open answer. -/
import Derived.Test.YtmejpildmapfiaaTOwn
namespace Go.Proofs.Ytmejpildmapfiaa
open Go.RowKit

set_option maxHeartbeats 2000000 in
theorem clone_any (a : Option Addr) (n c : Nat) (f : Nat → Int) (w : World) (h : Sl w a n f) (hn : 0 < n) (hbig : n ≤ 140737488355328) :
    Calls Try.prog 47 #[.slice a n c] w fun e w' => (∃ g c', e = .returned (.slice (some ⟨g, 0, none⟩) n c') ∧ w'.ownsRow w.heap.size 5 1 (.slice (some ⟨g, 0, none⟩) n c') n (cel .u8 n f) ∧ w.heap.size ≤ g) ∧ Gr w w' := by
  obtain ⟨i0, hi, hz0, hz1, hz2⟩ := info_parts info_u8
  have q22 : ∀ (w : World) (a : Option Addr) (n c n' c' : Nat), (binOp .eql 22 (.slice a n c) (.slice none n' c')).run Try.prog w = .ok (.bool a.isNone) w := fun w a n c n' c' => Lib.run_eql_slice_nil w _ _ a n c n' c' Try.underlying22
  obtain ⟨b, o, rfl, hB, hc⟩ := h.at hn
  have HC := hide hc
  clear hc
  go_enter Try.func47, Try.ntmps47
  go_wp2_with (at_builtin; refine wpList_append_own _ rfl _ _ 22 rfl w.heap.size 5 i0 (.int .u8 0) 1 1 Try.underlying22 hi hz0 hz1 hz2 rfl (by decide) _ _ _ rfl (World.ownsRow_made w #[] 0 (Nat.le_refl _) (Nat.zero_le _) rfl) ⟨b, o, none⟩ n c (cel .u8 n f) rfl ?qc1 ?qc2 (cel_one _ _ _) ?qc4 ?qc5 ?qc6 ?_)
  case qc1 => simp [cel_len]
  case qc2 =>
    intro j u hj
    have hjn : j < n := by
      have := (List.getElem?_eq_some_iff.1 hj).1
      rw [cel_len] at this
      exact this
    have e : (⟨b, o, none⟩ : Addr).add j = ⟨b, o + j, none⟩ := by unfold Addr.add; split <;> simp_all
    rw [cel_get _ _ _ hjn] at hj
    rw [e, ((Gr.refl w).alloc _).cell b _ hB, HC.out j hjn]
    exact hj
  case qc4 => unfold maxLen; omega
  case qc5 => omega
  case qc6 => simp
  intro v' w1 hown hgrow hnil
  obtain ⟨a', c', rfl, _, _, hh⟩ := own_form hown
  rcases hh with hh | ⟨g, rfl, hge, _, _⟩
  · omega
  go_wp2
  go_ret
  refine ⟨⟨g, c', rfl, hown, hge⟩, ?_⟩
  exact Gr.grown ((Gr.refl w).alloc _) hgrow (by intro k hk; simp [Value.ownBlock] at hk; omega)

/-- two tiles are the same -/
def sameTB (W H : Int) (n : Nat) (f : Nat → Int) (W' H' : Int) (m : Nat) (g : Nat → Int) : Bool := decide (W = W') && decide (H = H') && sameB n f m g

/-- f with x at j -/
def upd (f : Nat → Int) (j : Nat) (x : Int) : Nat → Int := fun i => if i = j then x else f i

theorem with_end {w2 : World} {base g n c' B : Nat} {f : Nat → Int} (hown : w2.ownsRow base 5 1 (.slice (some ⟨g, 0, none⟩) n c') n (cel .u8 n f)) (hB : B < base) (hf : ∀ i, i < n → 0 ≤ f i ∧ f i ≤ 255) {k : Nat} {x : Int} (hx : 0 ≤ x ∧ x ≤ 255) (v0 v1 v2 : Value) :
    n ≤ c' ∧ c' ≤ maxLen ∧ Sl ((((w2.setCell ⟨g, k, none⟩ (.int .u8 x)).setCell ⟨B, 0, none⟩ v0).setCell ⟨B, 1, none⟩ v1).setCell ⟨B, 2, none⟩ v2) (some ⟨g, 0, none⟩) n (upd f k x) := by
  have h1 := (hown.stored k (.int .u8 x)).1
  rw [cel_set] at h1
  have h2 := ownsRow_setCell_below (ownsRow_setCell_below (ownsRow_setCell_below h1 (a := ⟨B, 0, none⟩) hB v0) (a := ⟨B, 1, none⟩) hB v1) (a := ⟨B, 2, none⟩) hB v2
  obtain ⟨a, cap, e, q1, q2, q3⟩ := Sl.of_own (f := upd f k x) h2 (fun i hi => by unfold upd; split; exact hx; exact hf i hi)
  simp only [Value.slice.injEq] at e
  obtain ⟨rfl, _, rfl⟩ := e
  exact ⟨q1, q2, q3⟩

/-- the locals that are no walls, rising -/
def openL (n : Nat) (f : Nat → Int) : List Nat := (List.range n).filter fun i => f i != 255
theorem openL_yes (n : Nat) (f : Nat → Int) (h : f n ≠ 255) : openL (n + 1) f = openL n f ++ [n] := by simp [openL, List.range_succ, List.filter_append, h]
theorem openL_no (n : Nat) (f : Nat → Int) (h : f n = 255) : openL (n + 1) f = openL n f := by simp [openL, List.range_succ, List.filter_append, h]
theorem openL_le (n : Nat) (f : Nat → Int) : (openL n f).length ≤ n := by
  have := List.length_filter_le (fun i => f i != 255) (List.range n)
  simpa [openL] using this
def openV (n : Nat) (f : Nat → Int) : List Value := (openL n f).map fun i : Nat => Value.int .i64 (i : Int)
/-- the j-th of them -/
def openF (n : Nat) (f : Nat → Int) (j : Nat) : Int := ((openL n f).getD j 0 : Nat)
theorem openV_cel (n : Nat) (f : Nat → Int) : openV n f = cel .i64 (openL n f).length (openF n f) := by
  apply List.ext_getElem?
  intro i
  by_cases hi : i < (openL n f).length
  · rw [cel_get _ _ _ hi]
    simp [openV, openF, hi]
  · have h1 : (openV n f)[i]? = none := by simp [openV]; omega
    rw [h1]; symm; simp [cel_len]; omega

theorem alloc_one (w : World) (v : Value) (t : TypeId) : ∀ j u, [v][j]? = some u → (w.alloc (.cells #[v] t)).cell? ((⟨w.heap.size, 0, none⟩ : Addr).add j) = some u := by
  intro j u hj
  match j, hj with
  | 0, hj => simp at hj; subst hj; simp [Addr.add]

end Go.Proofs.Ytmejpildmapfiaa
