/- What HeapSorts counts: which of those that went in have come out. Numbers alone. No condition. -/
import Derived.Test.YtnkjehbbcjnfcaaHTwo13
namespace Go.Proofs.Ytnkjehbbcjnfcaa
set_option maxRecDepth 20000

/-- the first k of those that go in -/
def inE (e : Nat → Int × Int) (k : Nat) : List (Int × Int) := (List.range k).map e
theorem inE_len (e : Nat → Int × Int) (k : Nat) : (inE e k).length = k := by simp [inE]
theorem inE_succ (e : Nat → Int × Int) (k : Nat) : inE e (k + 1) = inE e k ++ [e k] := by simp [inE, List.range_succ]
theorem inE_at (e : Nat → Int × Int) {k i : Nat} (h : i < k) : elP (inE e k) i = e i := by simp [elP, inE, h]
theorem srt_succ (e : Nat → Int × Int) (k : Nat) : srtP (inE e (k + 1)) = insP (e k) (srtP (inE e k)) := by rw [inE_succ, srtP_app]
theorem srt_len (e : Nat → Int × Int) (k : Nat) : (srtP (inE e k)).length = k := by rw [srtP_len, inE_len]
/-- is it the one that is asked for, and has not been met? -/
def asks (e : Nat → Int × Int) (met : Nat → Bool) (z : Int × Int) (i : Nat) : Bool := !met i && decide (e i = z)
/-- of those that have not been met, each stands in R as often -/
def Left (e : Nat → Int × Int) (N : Nat) (met : Nat → Bool) (R : List (Int × Int)) : Prop := ∀ z, (List.range N).countP (asks e met z) = R.countP (fun x => decide (x = z))
theorem left_start (e : Nat → Int × Int) (N : Nat) : Left e N (fun _ => false) (srtP (inE e N)) := by
  intro z
  rw [(srtP_perm (inE e N)).countP_eq]
  unfold inE
  rw [List.countP_map]
  rfl
theorem left_has {e : Nat → Int × Int} {N : Nat} {met : Nat → Bool} {y : Int × Int} {R : List (Int × Int)} (h : Left e N met (y :: R)) : ∃ i, i < N ∧ asks e met y i = true := by
  have := h y
  rw [List.countP_cons_of_pos (by simp)] at this
  obtain ⟨i, hi, ha⟩ := List.countP_pos_iff.1 (show 0 < (List.range N).countP (asks e met y) by omega)
  exact ⟨i, List.mem_range.1 hi, ha⟩
theorem countP_turn (p q : Nat → Bool) (a : Nat) (hpa : p a = true) (hqa : q a = false) (ho : ∀ i, i ≠ a → p i = q i) : ∀ N, a < N → (List.range N).countP p = (List.range N).countP q + 1
  | 0, h => absurd h (Nat.not_lt_zero _)
  | N + 1, h => by
    rw [List.range_succ, List.countP_append, List.countP_append]
    by_cases e : a = N
    · subst e
      have : (List.range a).countP p = (List.range a).countP q := List.countP_congr fun i hi => by
        have := List.mem_range.1 hi
        rw [ho i (by omega)]
      rw [this]
      simp [hpa, hqa]
    · have := countP_turn p q a hpa hqa ho N (by omega)
      rw [this]
      have e2 : [N].countP p = [N].countP q := List.countP_congr fun i hi => by
        have hi : i = N := by simpa using hi
        rw [ho i (by omega)]
      omega
theorem left_turn {e : Nat → Int × Int} {N : Nat} {met : Nat → Bool} {y : Int × Int} {R : List (Int × Int)} (h : Left e N met (y :: R)) {a : Nat} (ha : a < N) (hy : asks e met y a = true) : Left e N (fun i => if i = a then true else met i) R := by
  intro z
  have hz := h z
  have hm : met a = false ∧ e a = y := by simpa [asks] using hy
  by_cases c : y = z
  · subst c
    rw [List.countP_cons_of_pos (by simp)] at hz
    have := countP_turn (asks e met y) (asks e (fun i => if i = a then true else met i) y) a hy (by simp [asks]) (fun i hi => by simp [asks, hi]) N ha
    omega
  · rw [List.countP_cons_of_neg (by simpa using c)] at hz
    rw [← hz]
    refine List.countP_congr fun i _ => ?_
    by_cases e2 : i = a
    · subst e2
      simp [asks, hm.2, c]
    · simp [asks, e2]
/-- where the last one that is asked for stands among the first k; -1 of none -/
def lastAt (p : Nat → Bool) : Nat → Int
  | 0 => -1
  | k + 1 => if p k then (k : Int) else lastAt p k
theorem lastAt_is (p : Nat → Bool) : ∀ k, lastAt p k = -1 ∨ ∃ i, i < k ∧ p i = true ∧ lastAt p k = (i : Int)
  | 0 => .inl rfl
  | k + 1 => by
    unfold lastAt
    by_cases c : p k = true
    · rw [if_pos c]
      exact .inr ⟨k, by omega, c, rfl⟩
    · rw [if_neg c]
      rcases lastAt_is p k with h | ⟨i, h1, h2, h3⟩
      · exact .inl h
      · exact .inr ⟨i, by omega, h2, h3⟩
theorem lastAt_has (p : Nat → Bool) : ∀ k i, i < k → p i = true → ∃ j, j < k ∧ p j = true ∧ lastAt p k = (j : Int) := by
  intro k
  induction k with
  | zero => intro i h; omega
  | succ k ih =>
    intro i h hp
    unfold lastAt
    by_cases c : p k = true
    · rw [if_pos c]
      exact ⟨k, by omega, c, rfl⟩
    · rw [if_neg c]
      by_cases e : i = k
      · subst e; exact absurd hp c
      · obtain ⟨j, h1, h2, h3⟩ := ih i (by omega) hp
        exact ⟨j, by omega, h2, h3⟩
end Go.Proofs.Ytnkjehbbcjnfcaa
