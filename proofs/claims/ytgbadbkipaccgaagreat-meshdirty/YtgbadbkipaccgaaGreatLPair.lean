/- A slice of structs of two numbers as a list of pairs. No condition. -/
import Derived.Test.YtgbadbkipaccgaaGreatBT
import Derived.Laws.AppendOwnNone
import Derived.Deep.RegionHeld3
import Derived.Deep.CutRange
namespace Go.Proofs.YtgbadbkipaccgaaGreat
open Go.RowKit
set_option maxRecDepth 20000

/-- pairs as cells -/
def flatP (L : List (Int × Int)) : List Value := L.flatMap fun e => [.int .i64 e.1, .int .i64 e.2]
theorem flatP_nil : flatP [] = [] := rfl
theorem flatP_app (L M : List (Int × Int)) : flatP (L ++ M) = flatP L ++ flatP M := by simp [flatP]
theorem flatP_one (e : Int × Int) : flatP [e] = [.int .i64 e.1, .int .i64 e.2] := rfl
theorem flatP_cons (e : Int × Int) (L : List (Int × Int)) : flatP (e :: L) = .int .i64 e.1 :: .int .i64 e.2 :: flatP L := rfl
theorem flatP_len : ∀ L : List (Int × Int), (flatP L).length = L.length * 2
  | [] => rfl
  | e :: L => by rw [flatP_cons, List.length_cons, List.length_cons, flatP_len L, List.length_cons]; omega
theorem flatP_get : ∀ (L : List (Int × Int)) (i : Nat) (e : Int × Int), L[i]? = some e → (flatP L)[i * 2]? = some (.int .i64 e.1) ∧ (flatP L)[i * 2 + 1]? = some (.int .i64 e.2)
  | [], i, e, h => by simp at h
  | f :: L, 0, e, h => by
    simp only [List.getElem?_cons_zero, Option.some.injEq] at h
    subst h
    exact ⟨rfl, rfl⟩
  | f :: L, i + 1, e, h => by
    have := flatP_get L i e (by simpa using h)
    rw [flatP_cons, show (i + 1) * 2 = i * 2 + 1 + 1 by omega]
    exact this
/-- the i-th pair -/
def elP (L : List (Int × Int)) (i : Nat) : Int × Int := L.getD i (0, 0)
theorem elP_get? {L : List (Int × Int)} {i : Nat} (h : i < L.length) : L[i]? = some (elP L i) := by simp [elP, h]
theorem elP_mem {L : List (Int × Int)} {i : Nat} (h : i < L.length) : elP L i ∈ L := List.mem_of_getElem? (elP_get? h)
/-- the slice at a, of n structs, with room for c, holds L -/
def PlS (w : World) (a : Option Addr) (n c : Nat) (L : List (Int × Int)) : Prop :=
  L.length = n ∧ n ≤ c ∧ c ≤ maxLen ∧ (n = 0 ∨ ∃ b o, a = some ⟨b, o, none⟩ ∧ b < w.heap.size ∧ ∀ i, i < n → w.cell? ⟨b, o + i * 2, none⟩ = some (.int .i64 (elP L i).1) ∧ w.cell? ⟨b, o + i * 2 + 1, none⟩ = some (.int .i64 (elP L i).2))
theorem PlS.gr {w w' : World} {a : Option Addr} {n c : Nat} {L : List (Int × Int)} (h : PlS w a n c L) (k : Gr w w') : PlS w' a n c L := by
  obtain ⟨h1, h2, h3, h4⟩ := h
  refine ⟨h1, h2, h3, ?_⟩
  rcases h4 with h4 | ⟨b, o, e, hb, hc⟩
  · exact .inl h4
  · exact .inr ⟨b, o, e, Nat.lt_of_lt_of_le hb k.size, fun i hi => ⟨cell_gr (hc i hi).1 k, cell_gr (hc i hi).2 k⟩⟩
theorem PlS.at {w : World} {a : Option Addr} {n c : Nat} {L : List (Int × Int)} (h : PlS w a n c L) (hn : 0 < n) : ∃ b o, a = some ⟨b, o, none⟩ ∧ b < w.heap.size ∧ ∀ i, i < n → w.cell? ⟨b, o + i * 2, none⟩ = some (.int .i64 (elP L i).1) ∧ w.cell? ⟨b, o + i * 2 + 1, none⟩ = some (.int .i64 (elP L i).2) := by
  rcases h.2.2.2 with h0 | h1
  · omega
  · exact h1
theorem PlS.of_own {w : World} {base : Nat} {e : TypeId} {v : Value} {L : List (Int × Int)} (h : w.ownsRow base e 2 v L.length (flatP L)) : ∃ a c, v = .slice a L.length c ∧ PlS w a L.length c L := by
  rcases h.2 with ⟨rfl, h0⟩ | ⟨g, cap, cur, rfl, hb, hg, h1, h2, h3, h4⟩
  · rw [h0]
    exact ⟨none, 0, rfl, h0, Nat.le_refl _, Nat.zero_le _, .inl rfl⟩
  · refine ⟨_, cap, rfl, rfl, h1, h2, .inr ⟨g, 0, rfl, (Array.getElem?_eq_some_iff.1 hg).1, fun i hi => ?_⟩⟩
    have q := flatP_get L i (elP L i) (elP_get? hi)
    rw [Nat.zero_add, h.cellAt (i * 2) (by omega), h.cellAt (i * 2 + 1) (by omega)]
    exact q
theorem own_grP {w w' : World} {base : Nat} {e : TypeId} {v : Value} {n : Nat} {xs : List Value} (h : w.ownsRow base e 2 v n xs) (g : Gr w w') : w'.ownsRow base e 2 v n xs := by
  refine ⟨h.1, ?_⟩
  rcases h.2 with h0 | ⟨b, cap, cur, rfl, hb, hg, r⟩
  · exact .inl h0
  · exact .inr ⟨b, cap, cur, rfl, hb, (Below.block g b (Array.getElem?_eq_some_iff.1 hg).1).trans hg, r⟩
theorem ownP_base {w : World} {base base' : Nat} {e : TypeId} {v : Value} {n : Nat} {xs : List Value} (h : w.ownsRow base e 2 v n xs) (hb : base' ≤ base) : w.ownsRow base' e 2 v n xs := by
  refine ⟨h.1, ?_⟩
  rcases h.2 with h0 | ⟨b, cap, cur, rfl, h1, r⟩
  · exact .inl h0
  · exact .inr ⟨b, cap, cur, rfl, Nat.le_trans hb h1, r⟩
theorem pairs_nil (w : World) (base : Nat) (e : TypeId) : w.ownsRow base e 2 (.slice none 0 0) 0 (flatP []) := World.ownsRow_nil _ _ _ _
theorem alloc_two (w : World) (u v : Value) (t : TypeId) : ∀ j x, [u, v][j]? = some x → (w.alloc (.cells #[u, v] t)).cell? ((⟨w.heap.size, 0, none⟩ : Addr).add j) = some x := by
  intro j x hj
  match j, hj with
  | 0, hj => simp at hj; subst hj; simp [Addr.add]
  | 1, hj => simp at hj; subst hj; simp [Addr.add, go_sem]
/-- the last pair's second number, laid anew -/
theorem flatP_last (M : List (Int × Int)) (x y z : Int) : (flatP (M ++ [(x, y)])).set (M.length * 2 + 1) (.int .i64 z) = flatP (M ++ [(x, z)]) := by
  rw [flatP_app, flatP_app, flatP_one, flatP_one, List.set_append_right _ _ (by rw [flatP_len]; omega), flatP_len]
  congr 1
  rw [show M.length * 2 + 1 - M.length * 2 = 1 by omega]
  rfl
end Go.Proofs.YtgbadbkipaccgaaGreat
