/- Rows that came in, rows of bools: in the words of the walks. No condition. -/
import Derived.Test.YtgbadbkipaccgaaGreatBT
namespace Go.Proofs.YtgbadbkipaccgaaGreat
open Go.RowKit

/-- the slice at a, of n pairs of integers, reads as f, g -/
def LayS (w : World) (a : Option Addr) (n : Nat) (f g : Nat → Int) : Prop :=
  n = 0 ∨ ∃ b o, a = some ⟨b, o, none⟩ ∧ b < w.heap.size ∧ ∀ i, i < n → w.cell? ⟨b, o + i * 2, none⟩ = some (.int .i64 (f i)) ∧ w.cell? ⟨b, o + i * 2 + 1, none⟩ = some (.int .i64 (g i))
theorem LayS.at {w : World} {a : Option Addr} {n : Nat} {f g : Nat → Int} (h : LayS w a n f g) (hn : 0 < n) : ∃ b o, a = some ⟨b, o, none⟩ ∧ b < w.heap.size ∧ ∀ i, i < n → w.cell? ⟨b, o + i * 2, none⟩ = some (.int .i64 (f i)) ∧ w.cell? ⟨b, o + i * 2 + 1, none⟩ = some (.int .i64 (g i)) := by
  rcases h with h | h
  · omega
  · exact h
theorem LayS.of {w : World} {a : Option Addr} {n c : Nat} {z : Nat → Nat → Int} (h : IsSt 2 w a n c z) : LayS w a n (fun i => z i 0) (fun i => z i 1) := by
  rcases h.has (by omega) with h | ⟨b, o, rfl, hb, hc⟩
  · exact .inl h
  · exact .inr ⟨b, o, rfl, hb, fun i hi => ⟨(hc i hi 0 (by omega)).1, (hc i hi 1 (by omega)).1⟩⟩
/-- the slice at a, of n bools, reads as z -/
def BoS (w : World) (a : Option Addr) (n : Nat) (z : Nat → Bool) : Prop :=
  n = 0 ∨ ∃ b o, a = some ⟨b, o, none⟩ ∧ b < w.heap.size ∧ ∀ i, i < n → w.cell? ⟨b, o + i, none⟩ = some (.bool (z i))
theorem info_bool : (Tryz.prog.info? 4).map (fun i => (i.zero, i.size, i.bytes)) = some (some (.bool false), 1, 1) := by kernel_rfl

/-- how many of the first n hold, when one more does -/
theorem many_more {P P' : Nat → Bool} {s : Nat} (h1 : ∀ t, t ≠ s → P' t = P t) (h2 : P' s = true) : ∀ n, ((List.range n).filter P').length = ((List.range n).filter P).length + (if s < n ∧ P s = false then 1 else 0)
  | 0 => by simp
  | n + 1 => by
    have ih := many_more h1 h2 n
    rw [List.range_succ, List.filter_append, List.filter_append, List.length_append, List.length_append, ih]
    by_cases e : n = s
    · subst e
      rw [if_neg (by omega)]
      cases hp : P n
      · simp [h2, hp]
      · simp [h2, hp]
    · have hP := h1 n e
      by_cases q : s < n ∧ P s = false
      · rw [if_pos q, if_pos ⟨by omega, q.2⟩]
        cases hp : P n <;> simp [hP, hp] <;> omega
      · rw [if_neg q, if_neg (fun k => q ⟨by omega, k.2⟩)]
        cases hp : P n <;> simp [hP, hp]
end Go.Proofs.YtgbadbkipaccgaaGreat
