/- What a row tells of a struct, by value, of any number of fields of one cell each. No condition. -/
import Derived.Test.YtkekljlkgnfofaaTRow
import Derived.ChangeArms
import Derived.WideShapes
namespace Go.Proofs.Ytkekljlkgnfofaa
open Go.RowKit Go.ChangeShapes Go.WideShapes

theorem array6 {α : Type} {cs : Array α} (h : cs.size = 6) : ∃ c0 c1 c2 c3 c4 c5, cs = #[c0, c1, c2, c3, c4, c5] := by
  obtain ⟨l⟩ := cs
  match l, h with
  | [c0, c1, c2, c3, c4, c5], _ => exact ⟨c0, c1, c2, c3, c4, c5, rfl⟩
theorem open_fields {H : Type} {enc : TypeId × Value → H} {P : Program} {w : World} {base : Nat} {spare : Nat → Bool} {held : Bool} {r : Reach} {b0 : Nat} {t : TypeId} {fs : Array Field} {v : Value} {d : DataW H} {p : List MemPlace} {m : Nat}
    (hs : P.underlying t = some (.struct fs)) (hC : P.cellsOf t = m) (hv : Value.okWide P w r b0 t v) (h : DataW.Trod enc P w base spare held t v d p) :
    ∃ cs : Array Value, v = .agg cs ∧ cs.size = m ∧ ∃ n, ∀ (j : Nat) (f : Field), fs[j]? = some f → P.cellsOf f.type = 1 → f.offset = j → j < m → ∃ y, DataW.trod enc P w base spare held n f.type [cs.getD j undef] = some y := by
  obtain ⟨cs, rfl, hsz⟩ := okWide_struct hs hv
  obtain ⟨fuel, hf⟩ := h
  obtain ⟨xs, n, -, -, hl, hlen, hq⟩ := DataW.trod_struct hs hf
  refine ⟨cs, rfl, hsz.trans hC, n, fun j f hfj h1 ho hj => ?_⟩
  have hq := hq j f hfj
  have hjs : j < fs.size := (Array.getElem?_eq_some_iff.1 hfj).1
  rw [List.getElem?_eq_getElem (by omega), h1, ho] at hq
  have hjc : j < cs.size := by omega
  have hd : ((Value.agg cs).cells.toList.drop j).take 1 = [cs.getD j undef] := by
    show (cs.toList.drop j).take 1 = _
    rw [List.drop_eq_getElem_cons (by simpa using hjc)]
    simp [Array.getD, hjc]
  rw [hd] at hq
  exact ⟨_, hq⟩

/-- six numbers, by the index -/
def six (a b c d e f : Int) : Nat → Int
  | 0 => a
  | 1 => b
  | 2 => c
  | 3 => d
  | 4 => e
  | _ => f
theorem six_all {p : Int → Prop} {a b c d e f : Int} (h0 : p a) (h1 : p b) (h2 : p c) (h3 : p d) (h4 : p e) (h5 : p f) : ∀ i, i < 6 → p (six a b c d e f i) := by
  intro i hi
  rcases (by omega : i = 0 ∨ i = 1 ∨ i = 2 ∨ i = 3 ∨ i = 4 ∨ i = 5) with rfl | rfl | rfl | rfl | rfl | rfl <;> assumption

end Go.Proofs.Ytkekljlkgnfofaa
