/- What a row tells of a slice of bytes that came in, in the words of the walks. No condition. -/
import Derived.Test.YtigoehoaplndiaaTBase
import Derived.OpenShut
namespace Go.Proofs.Ytigoehoaplndiaa
open Go.RowKit

/-- A slice of integers that came in: nil; or a row of 'cap' cells, the numbers 'zs', of which the first 'len' are its elements. -/
def IsRow (k : IntKind) (w : World) (a : Option Addr) (len cap : Nat) (zs : List Int) : Prop :=
  (a = none ∧ len = 0 ∧ cap = 0 ∧ zs = []) ∨
  ∃ x, a = some x ∧ len ≤ cap ∧ cap ≤ maxLen ∧ zs.length = cap ∧ (∀ i, i < zs.length → w.cell? (x.add i) = some (.int k (zs.getD i 0))) ∧ ∀ n ∈ zs, (Lit.int k n).wf = true

/-- its bytes by the index -/
def byF (zs : List Int) (i : Nat) : Int := zs.getD i 0
theorem IsRow.sl {w : World} {a : Option Addr} {len cap : Nat} {zs : List Int} (h : IsRow .u8 w a len cap zs) : Sl w a len (byF zs) := by
  rcases h with ⟨rfl, rfl, rfl, rfl⟩ | ⟨x, rfl, hl, hm, hz, hc, hw⟩
  · exact ⟨fun i hi => absurd hi (Nat.not_lt_zero _), .inl rfl⟩
  · refine ⟨fun i hi => ?_, ?_⟩
    · have := range_u8 hw i
      rw [← List.getD_eq_getElem?_getD] at this
      exact this
    · by_cases h0 : len = 0
      · exact .inl h0
      · obtain ⟨b, o, rfl, hc'⟩ := ints_at hc (by omega)
        refine .inr ⟨b, o, rfl, ?_, fun i hi => hc' i (by omega)⟩
        exact World.block_lt_of_cell? w ⟨b, o + 0, none⟩ (hc' 0 (by omega))
theorem IsRow.len {k : IntKind} {w : World} {a : Option Addr} {len cap : Nat} {zs : List Int} (h : IsRow k w a len cap zs) : len ≤ maxLen := by
  rcases h with ⟨rfl, rfl, rfl, rfl⟩ | ⟨x, rfl, hl, hm, hz, hc, hw⟩
  · exact Nat.zero_le _
  · omega
theorem IsRow.nil {k : IntKind} {w : World} {a : Option Addr} {len cap : Nat} {zs : List Int} (h : IsRow k w a len cap zs) : a = none → len = 0 ∧ cap = 0 := by
  rcases h with ⟨rfl, rfl, rfl, rfl⟩ | ⟨x, rfl, hl, hm, hz, hc, hw⟩
  · intro _; exact ⟨rfl, rfl⟩
  · intro e; cases e

end Go.Proofs.Ytigoehoaplndiaa
