/- The document's OwnTile (a copy in memory of its own) and MadeTile (a tile of numbers). -/
import Derived.Test.YtjnoklfmdckidaaTRef
import Derived.Deep.RegionLaw
namespace Go.Proofs.Ytjnoklfmdckidaa
open Go.RowKit

theorem own_mono {w : World} {base base' : Nat} {e : TypeId} {v : Value} {n : Nat} {xs : List Value} (h : w.ownsRow base e 1 v n xs) (hb : base' ≤ base) : w.ownsRow base' e 1 v n xs := by
  refine ⟨h.1, ?_⟩
  rcases h.2 with h0 | ⟨b, cap, cur, rfl, hb', r⟩
  · exact .inl h0
  · exact .inr ⟨b, cap, cur, rfl, by omega, r⟩

theorem cel_at {w : World} {b o n : Nat} {f : Nat → Int} (hc : ∀ i, i < n → w.cell? ⟨b, o + i, none⟩ = some (.int .u8 (f i))) (hB : b < w.heap.size) {w' : World} (g : Gr w w') :
    ∀ j u, (cel .u8 n f)[j]? = some u → w'.cell? ((⟨b, o, none⟩ : Addr).add j) = some u := by
  intro j u hj
  have hjn : j < n := by
    have := (List.getElem?_eq_some_iff.1 hj).1
    rw [cel_len] at this
    exact this
  have e : (⟨b, o, none⟩ : Addr).add j = ⟨b, o + j, none⟩ := by unfold Addr.add; split <;> simp_all
  rw [cel_get _ _ _ hjn] at hj
  rw [e, g.cell b _ hB, hc j hjn]
  exact hj

/-- an owned row of bytes, not nil -/
structure OwnB (w : World) (base g n c : Nat) (f : Nat → Int) : Prop where
  own : w.ownsRow base 5 1 (.slice (some ⟨g, 0, none⟩) n c) n (cel .u8 n f)
  byte : ∀ i, i < n → 0 ≤ f i ∧ f i ≤ 255
theorem OwnB.sl {w : World} {base g n c : Nat} {f : Nat → Int} (h : OwnB w base g n c f) : n ≤ c ∧ c ≤ maxLen ∧ base ≤ g ∧ g < w.heap.size ∧ Sl w (some ⟨g, 0, none⟩) n f := by
  obtain ⟨a, cap, e, q1, q2, q3⟩ := Sl.of_own h.own h.byte
  simp only [Value.slice.injEq] at e
  obtain ⟨rfl, _, rfl⟩ := e
  have := h.own.lt g rfl
  exact ⟨q1, q2, this.1, this.2, q3⟩
theorem OwnB.gr {w w' : World} {base g n c : Nat} {f : Nat → Int} (h : OwnB w base g n c f) (k : Gr w w') : OwnB w' base g n c f := ⟨own_gr h.own k, h.byte⟩

theorem own_some {w1 : World} {base n : Nat} {f : Nat → Int} {v v' : Value} (hown : w1.ownsRow base 5 1 v' (0 + n) ([] ++ cel .u8 n f)) (hnil : v' = .slice none 0 0 ↔ v = .slice none 0 0 ∧ n = 0) (hv : ¬ v = .slice none 0 0) :
    ∃ g c', v' = .slice (some ⟨g, 0, none⟩) n c' ∧ w1.ownsRow base 5 1 (.slice (some ⟨g, 0, none⟩) n c') n (cel .u8 n f) ∧ base ≤ g := by
  rw [Nat.zero_add, List.nil_append] at hown
  rcases hown.2 with ⟨h0, _⟩ | ⟨g, cap, cur, rfl, hb, r⟩
  · exact absurd (hnil.1 h0).1 hv
  · exact ⟨g, cap, rfl, hown, hb⟩
theorem ownTile_end {w1 : World} {base B : Nat} {n g c' : Nat} {f : Nat → Int} (hf : ∀ i, i < n → 0 ≤ f i ∧ f i ≤ 255) (hown : w1.ownsRow base 5 1 (.slice (some ⟨g, 0, none⟩) n c') n (cel .u8 n f)) (hB : B + 2 ≤ base) (x0 x1 x2 y : Value) :
    OwnB ((((w1.setCell ⟨B, 2, none⟩ y).setCell ⟨B + 1, 0, none⟩ x0).setCell ⟨B + 1, 1, none⟩ x1).setCell ⟨B + 1, 2, none⟩ x2) B g n c' f := by
  refine ⟨own_mono (base := base) ?_ (by omega), hf⟩
  exact ownsRow_setCell_below (ownsRow_setCell_below (ownsRow_setCell_below (ownsRow_setCell_below hown (a := ⟨B, 2, none⟩) (by show B < base; omega) y) (a := ⟨B + 1, 0, none⟩) (by show B + 1 < base; omega) x0) (a := ⟨B + 1, 1, none⟩) (by show B + 1 < base; omega) x1) (a := ⟨B + 1, 2, none⟩) (by show B + 1 < base; omega) x2

end Go.Proofs.Ytjnoklfmdckidaa
