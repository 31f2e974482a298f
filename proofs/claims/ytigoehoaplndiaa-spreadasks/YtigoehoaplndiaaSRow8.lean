/- A slice of seeds that came in, in the words of the walks. No condition. -/
import Derived.Test.YtigoehoaplndiaaSSort8
import Derived.Test.YtigoehoaplndiaaTRow2
namespace Go.Proofs.Ytigoehoaplndiaa
open Go.RowKit

/-- the seeds, as a list -/
def lstS (n : Nat) (z : Nat → Nat → Int) : List Sd := (List.range n).map fun i => (z i 0, z i 1, z i 2)
theorem lstS_len (n : Nat) (z : Nat → Nat → Int) : (lstS n z).length = n := by simp [lstS]
theorem lstS_el {n : Nat} {z : Nat → Nat → Int} {i : Nat} (h : i < n) : el (lstS n z) i = (z i 0, z i 1, z i 2) := by simp [el, lstS, h]
theorem SlS.of_st {w : World} {a : Option Addr} {n c : Nat} {z : Nat → Nat → Int} (h : IsSt 3 w a n c z) : SlS w a n c (lstS n z) := by
  have hh := h.has (by omega)
  have hl := h.len
  rcases h with ⟨rfl, rfl, rfl⟩ | ⟨x, rfl, h1, h2, h3⟩
  · exact .inl ⟨rfl, rfl, rfl, rfl⟩
  · refine .inr ⟨x, rfl, lstS_len _ _, h1, h2, ?_⟩
    rcases hh with h0 | ⟨b, o, e, hb, hc⟩
    · exact .inl h0
    · cases e
      refine .inr ⟨b, o, rfl, hb, fun j u hu => ?_⟩
      have hj : j < n * 3 := by
        have := (List.getElem?_eq_some_iff.1 hu).1
        rwa [flatS_len, lstS_len] at this
      rw [flatS_at (lstS n z) (by rw [lstS_len]; exact hj), lstS_el (by omega)] at hu
      have hi : j / 3 < n := by omega
      have e : o + j = o + j / 3 * 3 + j % 3 := by omega
      rw [e, (hc (j / 3) hi (j % 3) (by omega)).1]
      rcases (by omega : j % 3 = 0 ∨ j % 3 = 1 ∨ j % 3 = 2) with r | r | r <;> (rw [r] at hu ⊢; exact hu)

end Go.Proofs.Ytigoehoaplndiaa
