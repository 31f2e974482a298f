/- A slice of ints that came in, read by the index. No condition. -/
import Derived.Test.YtigoehoaplndiaaTRow
import Derived.Test.YtigoehoaplndiaaTOwn
namespace Go.Proofs.Ytigoehoaplndiaa
open Go.RowKit
theorem IsRow.sli {w : World} {a : Option Addr} {len cap : Nat} {zs : List Int} (h : IsRow .i64 w a len cap zs) : SlI w a len (byF zs) := by
  rcases h with ⟨rfl, rfl, rfl, rfl⟩ | ⟨x, rfl, hl, hm, hz, hc, hw⟩
  · exact .inl rfl
  · by_cases h0 : len = 0
    · exact .inl h0
    · obtain ⟨b, o, rfl, hc'⟩ := ints_at hc (by omega)
      refine .inr ⟨b, o, rfl, ?_, fun i hi => hc' i (by omega)⟩
      exact World.block_lt_of_cell? w ⟨b, o + 0, none⟩ (hc' 0 (by omega))
end Go.Proofs.Ytigoehoaplndiaa
