/- A ring in memory: its box of 258 cells, each bucket's items in memory of its own. No condition. -/
import Derived.Test.YtigoehoaplndiaaKBase
import Derived.Test.YtigoehoaplndiaaQMath
import Derived.Deep.RegionLawGrows
namespace Go.Proofs.Ytigoehoaplndiaa
open Go.RowKit
set_option maxRecDepth 20000

/-- v is a slice that holds l; behind it block g alone -/
def Bu (w : World) (g : Option Nat) (v : Value) (l : List Int) : Prop :=
  (g = none ∧ v = .slice none 0 0 ∧ l = []) ∨ ∃ b o c cur, g = some b ∧ v = .slice (some ⟨b, o, none⟩) l.length c ∧ w.heap[b]? = some (.cells cur 3 (0, 0)) ∧ o + c ≤ cur.size ∧ l.length ≤ c ∧ ∀ (i : Nat) (x : Int), l[i]? = some x → cur[o + i]? = some (.int .i64 x)
theorem Bu.of_block {w w' : World} {g : Option Nat} {v : Value} {l : List Int} (h : Bu w g v l) (e : ∀ b, g = some b → w'.heap[b]? = w.heap[b]?) : Bu w' g v l := by
  rcases h with h | ⟨b, o, c, cur, h1, h2, h3, h4⟩
  · exact .inl h
  · exact .inr ⟨b, o, c, cur, h1, h2, (e b h1).trans h3, h4⟩
theorem Bu.lt {w : World} {b : Nat} {v : Value} {l : List Int} (h : Bu w (some b) v l) : b < w.heap.size := by
  rcases h with ⟨h, _⟩ | ⟨b', o, c, cur, h1, h2, h3, h4⟩
  · cases h
  · cases h1
    exact (Array.getElem?_eq_some_iff.1 h3).1
theorem Bu.form {w : World} {g : Option Nat} {v : Value} {l : List Int} (h : Bu w g v l) : ∃ a c, v = .slice a l.length c ∧ (a = none → l = [] ∧ c = 0) ∧ ∀ i x, l[i]? = some x → ∃ b o, a = some ⟨b, o, none⟩ ∧ w.cell? ⟨b, o + i, none⟩ = some (.int .i64 x) := by
  rcases h with ⟨_, rfl, rfl⟩ | ⟨b, o, c, cur, h1, rfl, h3, h4, h5, h6⟩
  · exact ⟨none, 0, rfl, fun _ => ⟨rfl, rfl⟩, fun i x hx => by simp at hx⟩
  · refine ⟨_, c, rfl, fun h => (by cases h), fun i x hx => ⟨b, o, rfl, ?_⟩⟩
    rw [cell_of_row w b (o + i) cur _ _ h3]
    exact h6 i x hx

/-- the cells of a ring's box -/
def rv (a n : Int) (vs : Nat → Value) : Nat → Value := fun j => if j = 0 then .int .i64 a else if j = 1 then .int .i64 n else vs (j - 2)
/-- a ring in memory: its box at p, all that it owns in FP -/
structure Rg (w : World) (p : Nat) (FP : Nat → Prop) (a : Int) (L : List (Int × Int)) : Prop where
  lo : 0 ≤ a
  near : Near a L
  fp : FP p
  lt : ∀ k, FP k → k < w.heap.size
  mem : ∃ (gs : Nat → Option Nat) (vs : Nat → Value), w.rowIs p 76 258 (rv a L.length vs) ∧ (∀ i, i < 256 → Bu w (gs i) (vs i) (its L i)) ∧ (∀ i b, i < 256 → gs i = some b → FP b ∧ b ≠ p) ∧ ∀ i j b, i < 256 → j < 256 → gs i = some b → gs j = some b → i = j
theorem Rg.kp {S : Nat → Prop} {w w' : World} {p : Nat} {FP : Nat → Prop} {a : Int} {L : List (Int × Int)} (h : Rg w p FP a L) (k : Kp S w w') (hs : ∀ b, FP b → ¬ S b) : Rg w' p FP a L := by
  obtain ⟨gs, vs, h1, h2, h3, h4⟩ := h.mem
  exact ⟨h.lo, h.near, h.fp, fun b hb => Nat.lt_of_lt_of_le (h.lt b hb) k.size, gs, vs, k.row h1 (hs p h.fp), fun i hi => (h2 i hi).of_block fun b hb => k.block b (h.lt b (h3 i b hi hb).1) (hs b (h3 i b hi hb).1), h3, h4⟩
theorem Rg.gr {w w' : World} {p : Nat} {FP : Nat → Prop} {a : Int} {L : List (Int × Int)} (h : Rg w p FP a L) (g : Gr w w') : Rg w' p FP a L := h.kp (S := fun _ => False) g.kp (fun _ _ q => q)
theorem Rg.cells {w : World} {p : Nat} {FP : Nat → Prop} {a : Int} {L : List (Int × Int)} (h : Rg w p FP a L) :
    w.cell? ⟨p, 0, none⟩ = some (.int .i64 a) ∧ w.cell? ⟨p, 1, none⟩ = some (.int .i64 (L.length : Int)) ∧ ∀ i, w.frozen? ⟨p, i, none⟩ = false := by
  obtain ⟨gs, vs, h1, h2, h3, h4⟩ := h.mem
  exact ⟨h1.cell (i := 0) (by omega), h1.cell (i := 1) (by omega), fun i => h1.frozen i⟩
/-- a later beginning of one that is empty -/
theorem Rg.jump {w : World} {p : Nat} {FP : Nat → Prop} {a : Int} (h : Rg w p FP a []) {k : Int} (hk : 0 ≤ k) : Rg (w.setCell ⟨p, 0, none⟩ (.int .i64 k)) p FP k [] := by
  obtain ⟨gs, vs, h1, h2, h3, h4⟩ := h.mem
  refine ⟨hk, Near.nil k, h.fp, fun b hb => by simpa [World.setCell] using h.lt b hb, gs, vs, (h1.set 0 _).congr ?_, fun i hi => (h2 i hi).of_block fun b hb => Below.heap_setCell w _ _ b (h3 i b hi hb).2, h3, h4⟩
  intro j hj
  by_cases e : j = 0 <;> simp [rv, e]

end Go.Proofs.Ytigoehoaplndiaa
