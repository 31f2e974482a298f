/- What a row tells of slices that came in, for the laws of layer 13. No condition. -/
import Derived.Test.YtnkjehbbcjnfcaaBW
import Derived.Test.YtnkjehbbcjnfcaaBT
namespace Go.Proofs.Ytnkjehbbcjnfcaa
open Go.RowKit

theorem IsRow.most {k : IntKind} {w : World} {a : Option Addr} {len cap : Nat} {zs : List Int} (h : IsRow k w a len cap zs) : len ≤ cap := by
  rcases h with ⟨rfl, rfl, rfl, rfl⟩ | ⟨x, rfl, hl, hm, hz, hc, hw⟩
  · exact Nat.le_refl _
  · exact hl
theorem IsRow.low {w : World} {a : Option Addr} {len cap : Nat} {zs : List Int} (h : IsRow .i64 w a len cap zs) (i : Nat) : -9223372036854775808 ≤ byF zs i := by
  have e : byF zs i = zs[i]?.getD 0 := by rw [← List.getD_eq_getElem?_getD]; rfl
  rw [e]
  rcases h with ⟨rfl, rfl, rfl, rfl⟩ | ⟨x, rfl, hl, hm, hz, hc, hw⟩
  · simp
  · exact (range_i64 hw i).1
end Go.Proofs.Ytnkjehbbcjnfcaa
