/- What bytes.Clone, bytes.Equal, tile.With, tile.Same, tile.Open answer. -/
import Derived.Test.YtigoehoaplndiaaTOwn
namespace Go.Proofs.Ytigoehoaplndiaa
open Go.RowKit

/-- two tiles are the same -/
def sameTB (W H : Int) (n : Nat) (f : Nat → Int) (W' H' : Int) (m : Nat) (g : Nat → Int) : Bool := decide (W = W') && decide (H = H') && sameB n f m g

/-- f with x at j -/
def upd (f : Nat → Int) (j : Nat) (x : Int) : Nat → Int := fun i => if i = j then x else f i

theorem with_end {w2 : World} {base g n c' B : Nat} {f : Nat → Int} (hown : w2.ownsRow base 5 1 (.slice (some ⟨g, 0, none⟩) n c') n (cel .u8 n f)) (hB : B < base) (hf : ∀ i, i < n → 0 ≤ f i ∧ f i ≤ 255) {k : Nat} {x : Int} (hx : 0 ≤ x ∧ x ≤ 255) (v0 v1 v2 : Value) :
    n ≤ c' ∧ c' ≤ maxLen ∧ Sl ((((w2.setCell ⟨g, k, none⟩ (.int .u8 x)).setCell ⟨B, 0, none⟩ v0).setCell ⟨B, 1, none⟩ v1).setCell ⟨B, 2, none⟩ v2) (some ⟨g, 0, none⟩) n (upd f k x) := by
  have h1 := (hown.stored k (.int .u8 x)).1
  rw [cel_set] at h1
  have h2 := ownsRow_setCell_below (ownsRow_setCell_below (ownsRow_setCell_below h1 (a := ⟨B, 0, none⟩) hB v0) (a := ⟨B, 1, none⟩) hB v1) (a := ⟨B, 2, none⟩) hB v2
  obtain ⟨a, cap, e, q1, q2, q3⟩ := Sl.of_own (f := upd f k x) h2 (fun i hi => by unfold upd; split; exact hx; exact hf i hi)
  simp only [Value.slice.injEq] at e
  obtain ⟨rfl, _, rfl⟩ := e
  exact ⟨q1, q2, q3⟩

/-- the locals that are no walls, rising -/
def openL (n : Nat) (f : Nat → Int) : List Nat := (List.range n).filter fun i => f i != 255
theorem openL_yes (n : Nat) (f : Nat → Int) (h : f n ≠ 255) : openL (n + 1) f = openL n f ++ [n] := by simp [openL, List.range_succ, List.filter_append, h]
theorem openL_no (n : Nat) (f : Nat → Int) (h : f n = 255) : openL (n + 1) f = openL n f := by simp [openL, List.range_succ, List.filter_append, h]
theorem openL_le (n : Nat) (f : Nat → Int) : (openL n f).length ≤ n := by
  have := List.length_filter_le (fun i => f i != 255) (List.range n)
  simpa [openL] using this
def openV (n : Nat) (f : Nat → Int) : List Value := (openL n f).map fun i : Nat => Value.int .i64 (i : Int)
/-- the j-th of them -/
def openF (n : Nat) (f : Nat → Int) (j : Nat) : Int := ((openL n f).getD j 0 : Nat)
theorem openV_cel (n : Nat) (f : Nat → Int) : openV n f = cel .i64 (openL n f).length (openF n f) := by
  apply List.ext_getElem?
  intro i
  by_cases hi : i < (openL n f).length
  · rw [cel_get _ _ _ hi]
    simp [openV, openF, hi]
  · have h1 : (openV n f)[i]? = none := by simp [openV]; omega
    rw [h1]; symm; simp [cel_len]; omega

theorem alloc_one (w : World) (v : Value) (t : TypeId) : ∀ j u, [v][j]? = some u → (w.alloc (.cells #[v] t)).cell? ((⟨w.heap.size, 0, none⟩ : Addr).add j) = some u := by
  intro j u hj
  match j, hj with
  | 0, hj => simp at hj; subst hj; simp [Addr.add]

end Go.Proofs.Ytigoehoaplndiaa
