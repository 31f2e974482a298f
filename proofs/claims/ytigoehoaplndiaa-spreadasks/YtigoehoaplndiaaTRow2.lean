/- What a row tells of a slice of structs that came in, in the words of the walks. No condition. -/
import Derived.Test.YtigoehoaplndiaaTRow
import Derived.ChangeArms
import Derived.ChangeSlices
namespace Go.Proofs.Ytigoehoaplndiaa
open Go.RowKit Go.ChangeShapes

theorem add_add (a : Addr) (q j : Nat) : (a.add q).add j = a.add (q + j) := by
  unfold Addr.add
  by_cases hj : j = 0
  · subst hj; simp
  · by_cases hq : q = 0
    · subst hq; simp [hj]
    · simp [hj, hq, Nat.add_assoc]
/-- a field of one cell, of an element of a slice of structs that came in: its cell, and that it reads -/
theorem slice_cell {H : Type} {enc : TypeId × Value → H} {P : Program} {w : World} {base : Nat} {spare : Nat → Bool} {held : Bool} {t e : TypeId} {fs : Array Field} {fuel : Nat} {a : Addr} {len cap : Nat} {x : DataW H × List MemPlace}
    (ht : P.underlying t = some (.slice e)) (he : P.underlying e = some (.struct fs)) (h : DataW.trod enc P w base spare held fuel t [.slice (some a) len cap] = some x)
    {m i j : Nat} {f : Field} (hm : P.cellsOf e = m) (hi : i < len) (hf : fs[j]? = some f) (h1 : P.cellsOf f.type = 1) (ho : f.offset = j) (hj : j < m) :
    ∃ v y n, w.cell? (a.add (i * m + j)) = some v ∧ DataW.trod enc P w base spare held n f.type [v] = some y := by
  rcases DataW.trod_slice ht h with ⟨hcs, -⟩ | ⟨a', len', cap', elems, rest, n, -, hcs, -, -, -, -, hlen, hel, -, -⟩
  · simp at hcs
  · simp only [List.cons.injEq, Value.slice.injEq, Option.some.injEq, and_true] at hcs
    obtain ⟨rfl, rfl, rfl⟩ := hcs
    have hy := hel i hi
    rw [List.getElem?_eq_getElem (by omega), Option.bind_eq_some_iff] at hy
    obtain ⟨cs', hc, hr⟩ := hy
    obtain ⟨xs, n', -, -, hl, hxl, hfx⟩ := DataW.trod_struct he hr
    have hq := hfx j f hf
    have hjs : j < fs.size := (Array.getElem?_eq_some_iff.1 hf).1
    rw [List.getElem?_eq_getElem (by omega), h1, ho] at hq
    have hjl : j < cs'.length := by omega
    have hd : (cs'.drop j).take 1 = [cs'[j]] := by
      rw [List.drop_eq_getElem_cons hjl]
      rfl
    rw [hd] at hq
    have hcell := (World.cells?_some hc).2.2 j (by omega)
    refine ⟨cs'[j], _, n', ?_, hq⟩
    rw [hm] at hcell
    rw [add_add] at hcell
    rw [hcell]
    simp [hjl]

/-- A slice of structs of m integers that came in: nil, or its elements' fields by two numbers. -/
def IsSt (m : Nat) (w : World) (a : Option Addr) (len cap : Nat) (z : Nat → Nat → Int) : Prop :=
  (a = none ∧ len = 0 ∧ cap = 0) ∨ ∃ x, a = some x ∧ len ≤ cap ∧ cap ≤ maxLen ∧ ∀ i, i < len → ∀ q, q < m → w.cell? (x.add (i * m + q)) = some (.int .i64 (z i q)) ∧ (Lit.int .i64 (z i q)).wf = true
theorem isSt_mk {H : Type} {enc : TypeId × Value → H} {P : Program} {w : World} {base : Nat} {spare : Nat → Bool} {held : Bool} {t e : TypeId} {fuel : Nat} {a : Option Addr} {len cap m : Nat} {x : DataW H × List MemPlace}
    (ht : P.underlying t = some (.slice e)) (h : DataW.trod enc P w base spare held fuel t [.slice a len cap] = some x)
    (hc : ∀ y, a = some y → ∀ i, i < len → ∀ q, q < m → ∃ n, w.cell? (y.add (i * m + q)) = some (.int .i64 n) ∧ (Lit.int .i64 n).wf = true) : ∃ z, IsSt m w a len cap z := by
  rcases DataW.trod_slice ht h with ⟨hcs, -⟩ | ⟨a', len', cap', elems, rest, n, -, hcs, -, -, hl, hm, -, -, -, -⟩
  · simp only [List.cons.injEq, Value.slice.injEq, and_true] at hcs
    exact ⟨fun _ _ => 0, .inl hcs⟩
  · simp only [List.cons.injEq, Value.slice.injEq, and_true] at hcs
    obtain ⟨rfl, rfl, rfl⟩ := hcs
    have hc' := hc a' rfl
    refine ⟨fun i q => match w.cell? (a'.add (i * m + q)) with | some (.int _ n) => n | _ => 0, .inr ⟨a', rfl, hl, hm, fun i hi q hq => ?_⟩⟩
    obtain ⟨k, e1, e2⟩ := hc' i hi q hq
    simp only [e1]
    exact ⟨trivial, e2⟩
theorem IsSt.nil {m : Nat} {w : World} {a : Option Addr} {len cap : Nat} {z : Nat → Nat → Int} (h : IsSt m w a len cap z) : a = none → len = 0 ∧ cap = 0 := by
  rcases h with ⟨rfl, rfl, rfl⟩ | ⟨x, rfl, _⟩
  · intro _; exact ⟨rfl, rfl⟩
  · intro e; cases e
theorem IsSt.len {m : Nat} {w : World} {a : Option Addr} {len cap : Nat} {z : Nat → Nat → Int} (h : IsSt m w a len cap z) : len ≤ cap ∧ cap ≤ maxLen := by
  rcases h with ⟨rfl, rfl, rfl⟩ | ⟨x, rfl, h1, h2, _⟩
  · exact ⟨Nat.le_refl _, Nat.zero_le _⟩
  · exact ⟨h1, h2⟩
theorem IsSt.has {m : Nat} {w : World} {a : Option Addr} {len cap : Nat} {z : Nat → Nat → Int} (h : IsSt m w a len cap z) (hm : 0 < m) : len = 0 ∨ ∃ b o, a = some ⟨b, o, none⟩ ∧ b < w.heap.size ∧ ∀ i, i < len → ∀ q, q < m → w.cell? ⟨b, o + i * m + q, none⟩ = some (.int .i64 (z i q)) ∧ (Lit.int .i64 (z i q)).wf = true := by
  rcases h with ⟨rfl, rfl, rfl⟩ | ⟨x, rfl, h1, h2, h3⟩
  · exact .inl rfl
  · by_cases h0 : len = 0
    · exact .inl h0
    · obtain ⟨b, off, spot⟩ := x
      have h00 := (h3 0 (by omega) 0 hm).1
      have hspot : spot = none := by simpa [Addr.add] using World.cell?_spot h00
      subst hspot
      have hadd : ∀ j, (Addr.add ⟨b, off, none⟩ j) = ⟨b, off + j, none⟩ := fun j => Go.WideShapes.add_plain b off j
      refine .inr ⟨b, off, rfl, ?_, fun i hi q hq => ?_⟩
      · rw [hadd] at h00
        exact World.block_lt_of_cell? w _ h00
      · have := h3 i hi q hq
        rw [hadd, ← Nat.add_assoc] at this
        exact this

end Go.Proofs.Ytigoehoaplndiaa
