/- A ring as a list in the order of arrival: which one goes first; what waits in each bucket. No condition. -/
import Derived.Test.YtigoehoaplndiaaWMath
namespace Go.Proofs.Ytigoehoaplndiaa

/-- the one at m, item x under key k, is the first of the least key -/
def FirstMin (L : List (Int × Int)) (m : Nat) (k x : Int) : Prop := L[m]? = some (k, x) ∧ (∀ e ∈ L, k ≤ e.1) ∧ ∀ j e, j < m → L[j]? = some e → k < e.1
theorem FirstMin.mem {L : List (Int × Int)} {m : Nat} {k x : Int} (h : FirstMin L m k x) : (k, x) ∈ L := List.mem_of_getElem? h.1
theorem FirstMin.lt {L : List (Int × Int)} {m : Nat} {k x : Int} (h : FirstMin L m k x) : m < L.length := (List.getElem?_eq_some_iff.1 h.1).1
theorem FirstMin.uniq {L : List (Int × Int)} {m n : Nat} {k x l y : Int} (h : FirstMin L m k x) (g : FirstMin L n l y) : m = n ∧ k = l ∧ x = y := by
  have a := h.2.1 _ g.mem
  have b := g.2.1 _ h.mem
  have e : m = n := by
    rcases Nat.lt_trichotomy m n with c | c | c
    · have := g.2.2 _ _ c h.1
      simp only at a b this; omega
    · exact c
    · have := h.2.2 _ _ c g.1
      simp only at a b this; omega
  subst e
  have q := h.1.symm.trans g.1
  simp only [Option.some.injEq, Prod.mk.injEq] at q
  exact ⟨rfl, q.1, q.2⟩
theorem exists_first : ∀ L : List (Int × Int), L ≠ [] → ∃ m k x, FirstMin L m k x
  | [], h => absurd rfl h
  | [e], _ => ⟨0, e.1, e.2, rfl, by simp, fun j _ hj => absurd hj (Nat.not_lt_zero _)⟩
  | e :: f :: L, _ => by
    obtain ⟨m, k, x, h⟩ := exists_first (f :: L) (by simp)
    by_cases c : e.1 ≤ k
    · refine ⟨0, e.1, e.2, rfl, ?_, fun j _ hj => absurd hj (Nat.not_lt_zero _)⟩
      intro g hg
      rcases List.mem_cons.1 hg with rfl | hg
      · exact Int.le_refl _
      · exact Int.le_trans c (h.2.1 g hg)
    · refine ⟨m + 1, k, x, h.1, ?_, ?_⟩
      · intro g hg
        rcases List.mem_cons.1 hg with rfl | hg
        · omega
        · exact h.2.1 g hg
      · intro j g hj hg
        cases j with
        | zero => simp only [List.getElem?_cons_zero, Option.some.injEq] at hg; subst hg; omega
        | succ j => exact h.2.2 j g (by omega) hg

/-- what waits in bucket i -/
def its (L : List (Int × Int)) (i : Nat) : List Int := (L.filter fun e => decide (e.1 % 256 = (i : Int))).map Prod.snd
theorem its_nil (i : Nat) : its [] i = [] := rfl
theorem its_app (L M : List (Int × Int)) (i : Nat) : its (L ++ M) i = its L i ++ its M i := by simp [its]
theorem its_put (L : List (Int × Int)) (k x : Int) (i : Nat) : its (L ++ [(k, x)]) i = if k % 256 = (i : Int) then its L i ++ [x] else its L i := by
  rw [its_app]
  by_cases h : k % 256 = (i : Int) <;> simp [its, h]
theorem its_empty (L : List (Int × Int)) (i : Nat) : its L i = [] ↔ ∀ e ∈ L, e.1 % 256 ≠ (i : Int) := by simp [its]
theorem its_len (L : List (Int × Int)) (i : Nat) : (its L i).length ≤ L.length := by
  simp only [its, List.length_map]
  exact List.length_filter_le _ _

/-- keys that lie within 256 of each other -/
def Near (a : Int) (L : List (Int × Int)) : Prop := ∀ e ∈ L, a ≤ e.1 ∧ e.1 ≤ a + 255
theorem Near.nil (a : Int) : Near a [] := fun _ h => absurd h (List.not_mem_nil)
theorem Near.put {a : Int} {L : List (Int × Int)} (h : Near a L) {k x : Int} (h1 : a ≤ k) (h2 : k ≤ a + 255) : Near a (L ++ [(k, x)]) := by
  intro e he
  rcases List.mem_append.1 he with he | he
  · exact h e he
  · simp only [List.mem_singleton] at he
    subst he
    exact ⟨h1, h2⟩
theorem erase_split (L : List (Int × Int)) {m : Nat} {e : Int × Int} (h : L[m]? = some e) : L = L.take m ++ e :: L.drop (m + 1) ∧ L.eraseIdx m = L.take m ++ L.drop (m + 1) := by
  obtain ⟨hm, he⟩ := List.getElem?_eq_some_iff.1 h
  refine ⟨?_, List.eraseIdx_eq_take_drop_succ L m⟩
  conv => lhs; rw [← List.take_append_drop m L]
  rw [List.drop_eq_getElem_cons hm, he]
theorem mem_take_idx {L : List (Int × Int)} {m : Nat} {e : Int × Int} (h : e ∈ L.take m) : ∃ j, j < m ∧ L[j]? = some e := by
  obtain ⟨j, hj⟩ := List.mem_iff_getElem?.1 h
  rw [List.getElem?_take] at hj
  by_cases c : j < m
  · rw [if_pos c] at hj; exact ⟨j, c, hj⟩
  · rw [if_neg c] at hj; cases hj
/-- what is taken out of its bucket -/
theorem its_take {a : Int} {L : List (Int × Int)} (hn : Near a L) {m : Nat} {k x : Int} (h : FirstMin L m k x) (i : Nat) :
    its L i = if k % 256 = (i : Int) then x :: its (L.eraseIdx m) i else its (L.eraseIdx m) i := by
  obtain ⟨e1, e2⟩ := erase_split L h.1
  rw [e2]
  conv => lhs; rw [e1]
  rw [its_app, its_app]
  by_cases c : k % 256 = (i : Int)
  · rw [if_pos c]
    have z : its (L.take m) i = [] := by
      rw [its_empty]
      intro e he q
      obtain ⟨j, hj, hg⟩ := mem_take_idx he
      have := h.2.2 j e hj hg
      have r := hn e (List.mem_of_getElem? hg)
      have s := hn _ h.mem
      simp only at s
      omega
    rw [z]
    simp [its, c]
  · rw [if_neg c]
    simp [its, c]
theorem Near.erase {a : Int} {L : List (Int × Int)} (hn : Near a L) {m : Nat} {k x : Int} (h : FirstMin L m k x) : Near k (L.eraseIdx m) := by
  intro e he
  have he := List.mem_of_mem_eraseIdx he
  have r := hn e he
  have s := hn _ h.mem
  simp only at s
  exact ⟨h.2.1 e he, by omega⟩
theorem erase_len {L : List (Int × Int)} {m : Nat} {k x : Int} (h : FirstMin L m k x) : (L.eraseIdx m).length = L.length - 1 := by
  rw [List.length_eraseIdx, if_pos h.lt]
/-- the bucket of a key that is not the least yet is empty; that of the least is not -/
theorem least_empty {a : Int} {L : List (Int × Int)} (hn : Near a L) {m : Nat} {k x : Int} (h : FirstMin L m k x) {j : Int} (h1 : a ≤ j) (h2 : j < k) {i : Nat} (hi : j % 256 = (i : Int)) : its L i = [] := by
  rw [its_empty]
  intro e he q
  have r := hn e he
  have s := hn _ h.mem
  have := h.2.1 e he
  simp only at s
  omega
theorem least_full {a : Int} {L : List (Int × Int)} (hn : Near a L) {m : Nat} {k x : Int} (h : FirstMin L m k x) {i : Nat} (hi : k % 256 = (i : Int)) : 0 < (its L i).length := by
  rw [its_take hn h, if_pos hi]
  simp

end Go.Proofs.Ytigoehoaplndiaa
