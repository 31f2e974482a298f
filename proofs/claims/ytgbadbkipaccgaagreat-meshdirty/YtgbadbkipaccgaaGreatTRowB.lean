/- What a row tells of a slice of bools that came in, in the words of the walks. No condition. -/
import Derived.Test.YtgbadbkipaccgaaGreatBT
namespace Go.Proofs.YtgbadbkipaccgaaGreat
open Go.RowKit Go.ChangeShapes

/-- A slice of bools that came in: nil, or its elements by a number. -/
def IsBs (w : World) (a : Option Addr) (len cap : Nat) (z : Nat → Bool) : Prop :=
  (a = none ∧ len = 0 ∧ cap = 0) ∨ ∃ x, a = some x ∧ len ≤ cap ∧ cap ≤ maxLen ∧ ∀ i, i < len → w.cell? (x.add i) = some (.bool (z i))
theorem isBs_mk {H : Type} {enc : TypeId × Value → H} {P : Program} {w : World} {base : Nat} {spare : Nat → Bool} {held : Bool} {t e : TypeId} {fuel : Nat} {a : Option Addr} {len cap : Nat} {x : DataW H × List MemPlace}
    (ht : P.underlying t = some (.slice e)) (he : P.underlying e = some .bool) (hm : P.cellsOf e = 1) (h : DataW.trod enc P w base spare held fuel t [.slice a len cap] = some x) : ∃ z, IsBs w a len cap z := by
  rcases DataW.trod_slice ht h with ⟨hcs, -⟩ | ⟨a', len', cap', elems, rest, n, -, hcs, -, -, hl, hmx, hlen, hel, -, -⟩
  · simp only [List.cons.injEq, Value.slice.injEq, and_true] at hcs
    exact ⟨fun _ => false, .inl hcs⟩
  · simp only [List.cons.injEq, Value.slice.injEq, and_true] at hcs
    obtain ⟨rfl, rfl, rfl⟩ := hcs
    have key : ∀ i, i < len → ∃ b, w.cell? (a'.add i) = some (.bool b) := fun i hi => by
      have hy := hel i hi
      rw [List.getElem?_eq_getElem (by omega), Option.bind_eq_some_iff] at hy
      obtain ⟨cs', hc, hr⟩ := hy
      obtain ⟨b, rfl, -⟩ := DataW.trod_bool he hr
      have hcell := (World.cells?_some hc).2.2 0 (by first | omega | simp | (rw [hm]; omega))
      rw [hm, add_add, Nat.mul_one, Nat.add_zero] at hcell
      exact ⟨b, by simpa using hcell⟩
    refine ⟨fun i => match w.cell? (a'.add i) with | some (.bool b) => b | _ => false, .inr ⟨a', rfl, hl, hmx, fun i hi => ?_⟩⟩
    obtain ⟨b, e1⟩ := key i hi
    simp only [e1]
theorem IsBs.len {w : World} {a : Option Addr} {len cap : Nat} {z : Nat → Bool} (h : IsBs w a len cap z) : len ≤ cap ∧ cap ≤ maxLen := by
  rcases h with ⟨rfl, rfl, rfl⟩ | ⟨x, rfl, h1, h2, _⟩
  · exact ⟨Nat.le_refl _, Nat.zero_le _⟩
  · exact ⟨h1, h2⟩
theorem IsBs.has {w : World} {a : Option Addr} {len cap : Nat} {z : Nat → Bool} (h : IsBs w a len cap z) : len = 0 ∨ ∃ b o, a = some ⟨b, o, none⟩ ∧ b < w.heap.size ∧ ∀ i, i < len → w.cell? ⟨b, o + i, none⟩ = some (.bool (z i)) := by
  rcases h with ⟨rfl, rfl, rfl⟩ | ⟨x, rfl, h1, h2, h3⟩
  · exact .inl rfl
  · by_cases h0 : len = 0
    · exact .inl h0
    · obtain ⟨b, off, spot⟩ := x
      have h00 := h3 0 (by omega)
      have hspot : spot = none := by simpa [Addr.add] using World.cell?_spot h00
      subst hspot
      have hadd : ∀ j, (Addr.add ⟨b, off, none⟩ j) = ⟨b, off + j, none⟩ := fun j => Go.WideShapes.add_plain b off j
      refine .inr ⟨b, off, rfl, ?_, fun i hi => ?_⟩
      · rw [hadd] at h00
        exact World.block_lt_of_cell? w _ h00
      · have := h3 i hi
        rw [hadd] at this
        exact this
end Go.Proofs.YtgbadbkipaccgaaGreat
