/- RingAll's order: what remains of items that went in by number, as the first of the least key goes. No condition. -/
import Derived.Test.YtjnoklfmdckidaaQMath
namespace Go.Proofs.Ytjnoklfmdckidaa

/-- what goes in as number j -/
def phi (f : Int) (W : Nat → Int) (j : Nat) : Int × Int := (f + W j, (j : Int))
/-- what remains, as numbers; the one that went last -/
structure Rem (f : Int) (W : Nat → Int) (n : Nat) (R : List Nat) (key item : Int) : Prop where
  up : R.Pairwise (fun a b => a < b)
  lt : ∀ j ∈ R, j < n
  ord : ∀ j ∈ R, key < f + W j ∨ (key = f + W j ∧ item < j)
theorem Rem.start (f : Int) (W : Nat → Int) (n : Nat) (hf : 0 ≤ f) (hW : ∀ j, 0 ≤ W j) : Rem f W n (List.range n) (-1) (-1) :=
  ⟨List.pairwise_lt_range, fun j hj => List.mem_range.1 hj, fun j _ => .inl (by have := hW j; omega)⟩
theorem rem_split {R : List Nat} {m j : Nat} (h : R[m]? = some j) : R = R.take m ++ j :: R.drop (m + 1) ∧ R.eraseIdx m = R.take m ++ R.drop (m + 1) := by
  obtain ⟨hm, he⟩ := List.getElem?_eq_some_iff.1 h
  refine ⟨?_, List.eraseIdx_eq_take_drop_succ R m⟩
  conv => lhs; rw [← List.take_append_drop m R]
  rw [List.drop_eq_getElem_cons hm, he]
theorem Rem.next {f : Int} {W : Nat → Int} {n : Nat} {R : List Nat} {key item : Int} (h : Rem f W n R key item) {m : Nat} {k x : Int} (hf : FirstMin (R.map (phi f W)) m k x) :
    ∃ j, j ∈ R ∧ j < n ∧ k = f + W j ∧ x = j ∧ Rem f W n (R.eraseIdx m) k x ∧ (∀ i, i ∈ R.eraseIdx m ↔ i ∈ R ∧ i ≠ j) ∧ (R.map (phi f W)).eraseIdx m = (R.eraseIdx m).map (phi f W) := by
  have h1 := hf.1
  rw [List.getElem?_map] at h1
  cases hj : R[m]? with
  | none => rw [hj] at h1; cases h1
  | some j =>
    rw [hj] at h1
    simp only [Option.map_some, Option.some.injEq, phi, Prod.mk.injEq] at h1
    obtain ⟨rfl, rfl⟩ := h1
    obtain ⟨e1, e2⟩ := rem_split hj
    have hmem : j ∈ R := List.mem_of_getElem? hj
    have hup := h.up
    rw [e1, List.pairwise_append, List.pairwise_cons] at hup
    obtain ⟨p1, ⟨p2, p3⟩, p4⟩ := hup
    have hiff : ∀ i, i ∈ R.eraseIdx m ↔ i ∈ R ∧ i ≠ j := by
      intro i
      rw [e2]
      constructor
      · intro hi
        rcases List.mem_append.1 hi with hi | hi
        · have := p4 i hi j (List.mem_cons_self ..)
          exact ⟨List.mem_of_mem_take hi, by omega⟩
        · have := p2 i hi
          exact ⟨List.mem_of_mem_drop hi, by omega⟩
      · rintro ⟨hi, hne⟩
        rw [e1] at hi
        rcases List.mem_append.1 hi with hi | hi
        · exact List.mem_append.2 (.inl hi)
        · rcases List.mem_cons.1 hi with hi | hi
          · exact absurd hi hne
          · exact List.mem_append.2 (.inr hi)
    refine ⟨j, hmem, h.lt j hmem, rfl, rfl, ⟨?_, fun i hi => h.lt i ((hiff i).1 hi).1, ?_⟩, hiff, ?_⟩
    · rw [e2, List.pairwise_append]
      exact ⟨p1, p3, fun a ha b hb => p4 a ha b (List.mem_cons_of_mem _ hb)⟩
    · intro i hi
      have hi2 := (hiff i).1 hi
      have hle := hf.2.1 (phi f W i) (List.mem_map_of_mem hi2.1)
      simp only [phi] at hle
      rcases Int.lt_or_eq_of_le hle with c | c
      · exact .inl c
      · refine .inr ⟨c, ?_⟩
        rw [e2] at hi
        rcases List.mem_append.1 hi with hi | hi
        · obtain ⟨q, hq⟩ := List.mem_iff_getElem?.1 hi
          rw [List.getElem?_take] at hq
          by_cases hqm : q < m
          · rw [if_pos hqm] at hq
            have := hf.2.2 q (phi f W i) hqm (by rw [List.getElem?_map, hq]; rfl)
            simp only [phi] at this
            omega
          · rw [if_neg hqm] at hq; cases hq
        · have := p2 i hi
          omega
    · rw [e2]
      conv => lhs; rw [e1]
      rw [List.map_append, List.map_append, List.map_cons]
      rw [List.eraseIdx_append_of_length_le (by simp; omega)]
      simp [Nat.min_eq_left (by have := (List.getElem?_eq_some_iff.1 hj).1; omega : m ≤ R.length)]
end Go.Proofs.Ytjnoklfmdckidaa
