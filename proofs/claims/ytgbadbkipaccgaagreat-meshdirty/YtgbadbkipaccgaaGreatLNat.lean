/- A slice of numbers as a list; append as a step. No condition. -/
import Derived.Test.YtgbadbkipaccgaaGreatBT
import Derived.Laws.AppendOwnNone
import Derived.Deep.RegionLawGrows
import Derived.Deep.RegionHeld3
import Derived.Deep.CutRange
namespace Go.Proofs.YtgbadbkipaccgaaGreat
open Go.RowKit
set_option maxRecDepth 20000

def encN (x : Nat) : Value := .int .i64 (x : Int)
def flatN (L : List Nat) : List Value := L.map encN
theorem flatN_len (L : List Nat) : (flatN L).length = L.length := by simp [flatN]
theorem flatN_get {L : List Nat} {i : Nat} {e : Nat} (h : L[i]? = some e) : (flatN L)[i]? = some (.int .i64 (e : Int)) := by simp [flatN, encN, h]
theorem flatN_one (L : List Nat) : ∀ u ∈ flatN L, u.oneCell' = true := by
  intro u hu
  obtain ⟨x, _, rfl⟩ := List.mem_map.1 hu
  rfl
/-- the slice at a, of n locals, with room for c, holds L -/
def IlS (w : World) (a : Option Addr) (n c : Nat) (L : List Nat) : Prop :=
  (a = none ∧ n = 0 ∧ c = 0 ∧ L = []) ∨ ∃ x, a = some x ∧ L.length = n ∧ n ≤ c ∧ c ≤ maxLen ∧ (n = 0 ∨ ∃ b o, x = ⟨b, o, none⟩ ∧ b < w.heap.size ∧ ∀ j u, (flatN L)[j]? = some u → w.cell? ⟨b, o + j, none⟩ = some u)
theorem IlS.len {w : World} {a : Option Addr} {n c : Nat} {L : List Nat} (h : IlS w a n c L) : L.length = n ∧ n ≤ c ∧ c ≤ maxLen := by
  rcases h with ⟨_, rfl, rfl, rfl⟩ | ⟨x, _, h1, h2, h3, _⟩
  · exact ⟨rfl, Nat.le_refl _, Nat.zero_le _⟩
  · exact ⟨h1, h2, h3⟩
theorem IlS.gr {w w' : World} {a : Option Addr} {n c : Nat} {L : List Nat} (h : IlS w a n c L) (k : Gr w w') : IlS w' a n c L := by
  rcases h with h | ⟨x, h0, h1, h2, h3, h4⟩
  · exact .inl h
  · refine .inr ⟨x, h0, h1, h2, h3, ?_⟩
    rcases h4 with h4 | ⟨b, o, e, hb, hc⟩
    · exact .inl h4
    · exact .inr ⟨b, o, e, Nat.lt_of_lt_of_le hb k.size, fun j u hu => cell_gr (hc j u hu) k⟩
theorem IlS.at {w : World} {a : Option Addr} {n c : Nat} {L : List Nat} (h : IlS w a n c L) (hn : 0 < n) : ∃ b o, a = some ⟨b, o, none⟩ ∧ b < w.heap.size ∧
    ∀ i, i < n → w.cell? ⟨b, o + i, none⟩ = some (.int .i64 ((L.getD i 0 : Nat) : Int)) := by
  have hl := h.len.1
  rcases h with ⟨_, rfl, _, _⟩ | ⟨x, rfl, h1, h2, h3, h4 | ⟨b, o, rfl, hb, hc⟩⟩
  · omega
  · omega
  · refine ⟨b, o, rfl, hb, fun i hi => hc i _ (flatN_get ?_)⟩
    rw [List.getD_eq_getElem?_getD, List.getElem?_eq_getElem (by omega)]
    rfl
theorem IlS.of_own {w : World} {base : Nat} {v : Value} {n : Nat} {L : List Nat} (h : w.ownsRow base 3 1 v n (flatN L)) (hn : L.length = n) : ∃ a c, v = .slice a n c ∧ IlS w a n c L := by
  rcases h.2 with ⟨rfl, h0⟩ | ⟨g, cap, cur, rfl, hb, hg, h1, h2, h3, h4⟩
  · subst h0
    exact ⟨none, 0, rfl, .inl ⟨rfl, rfl, rfl, List.eq_nil_of_length_eq_zero hn⟩⟩
  · refine ⟨_, cap, rfl, .inr ⟨_, rfl, hn, h1, h2, .inr ⟨g, 0, rfl, (Array.getElem?_eq_some_iff.1 hg).1, fun j u hu => ?_⟩⟩⟩
    rw [Nat.zero_add, cell_of_row w g j cur _ _ hg, ← Array.getElem?_toList]
    rw [← h4, List.getElem?_take] at hu
    by_cases c : j < n * 1
    · rwa [if_pos c] at hu
    · rw [if_neg c] at hu; cases hu
theorem IlS.take {w : World} {a : Option Addr} {n c m : Nat} {L : List Nat} (h : IlS w a n c L) (hm : m ≤ n) : IlS w a m c (L.take m) := by
  have hl := h.len.1
  rcases h with ⟨h0, rfl, h2, rfl⟩ | ⟨x, h0, h1, h2, h3, h4⟩
  · have : m = 0 := by omega
    subst this
    exact .inl ⟨h0, rfl, h2, rfl⟩
  · refine .inr ⟨x, h0, by rw [List.length_take]; omega, by omega, h3, ?_⟩
    rcases h4 with h4 | ⟨b, o, e, hb, hc⟩
    · exact .inl (by omega)
    · refine .inr ⟨b, o, e, hb, fun j u hu => hc j u ?_⟩
      unfold flatN at hu ⊢
      rw [List.map_take, List.getElem?_take] at hu
      by_cases c : j < m
      · rwa [if_pos c] at hu
      · rw [if_neg c] at hu; cases hu
theorem IlS.drop {w : World} {b o n c m : Nat} {L : List Nat} (h : IlS w (some ⟨b, o, none⟩) n c L) (hm : m ≤ n) : IlS w (some ⟨b, o + m, none⟩) (n - m) (c - m) (L.drop m) := by
  rcases h with ⟨h0, _⟩ | ⟨x, h0, h1, h2, h3, h4⟩
  · cases h0
  · cases h0
    refine .inr ⟨_, rfl, by rw [List.length_drop]; omega, by omega, by omega, ?_⟩
    rcases h4 with h4 | ⟨b', o', e, hb, hc⟩
    · exact .inl (by omega)
    · cases e
      refine .inr ⟨b, _, rfl, hb, fun j u hu => ?_⟩
      unfold flatN at hu
      rw [List.map_drop, List.getElem?_drop] at hu
      rw [Nat.add_assoc]
      exact hc _ _ hu
theorem own_grI {w w' : World} {base : Nat} {v : Value} {n : Nat} {xs : List Value} (h : w.ownsRow base 3 1 v n xs) (g : Gr w w') : w'.ownsRow base 3 1 v n xs := own_gr h g
theorem own_baseI {w : World} {base base' : Nat} {v : Value} {n : Nat} {xs : List Value} (h : w.ownsRow base 3 1 v n xs) (hb : base' ≤ base) : w.ownsRow base' 3 1 v n xs := by
  refine ⟨h.1, ?_⟩
  rcases h.2 with h0 | ⟨b, cap, cur, rfl, hb', r⟩
  · exact .inl h0
  · exact .inr ⟨b, cap, cur, rfl, Nat.le_trans hb hb', r⟩
theorem wp_ints {o : Oper} {a : Act} {w : World} {K : Act → World → Prop} {Q : Exit → Act → World → Prop} (s x : Operand) (ho : o.op = Op.call { callee := Callee.builtin Builtin.append, args := #[s, x], argTypes := #[31, 31] })
    (base : Nat) (v : Value) (n : Nat) (xs : List Value) (hs : a.eval s = v) (hown : w.ownsRow base 3 1 v n xs)
    (al : Option Addr) (m c : Nat) (M : List Nat) (hx : a.eval x = .slice al m c) (hit : IlS w al m c M) (hn : n + m ≤ 1000000) {N : Nat} (hN : n + m = N) (hbase : base ≤ w.heap.size)
    (hK : ∀ a' c' w', w'.ownsRow base 3 1 (.slice a' N c') N (xs ++ flatN M) → w.grownBy w' v.ownBlock → K (a.put o.dst (.slice a' N c')) w') :
    Oper.wp Tryz.prog o a w K Q := by
  subst hN
  obtain ⟨i0, hi, hz0, hz1, hz2⟩ := info_parts info_int
  rcases hit with ⟨rfl, rfl, rfl, rfl⟩ | ⟨y, rfl, hl, _, _, h4⟩
  · have hrun := run_append_owned_none (P := Tryz.prog) (w := w) base 31 o.type 3 i0 1 Tryz.underlying31 hi v n xs hown
    unfold Oper.wp
    simp [execOp, ho, resolve, invoke, builtin, hs, hx, hrun, Result.andThen]
    have hform : ∃ a' c', v = .slice a' n c' := by
      rcases hown.2 with ⟨rfl, rfl⟩ | ⟨g, cap, cur, rfl, _⟩
      · exact ⟨none, 0, rfl⟩
      · exact ⟨_, cap, rfl⟩
    obtain ⟨a', c', rfl⟩ := hform
    exact hK a' c' w (by simpa [flatN] using hown) ⟨rfl, rfl, rfl, Nat.le_refl _, fun _ _ _ => rfl⟩
  · refine wp_append_own w s x 31 ho base 3 i0 (.int .i64 0) 1 8 Tryz.underlying31 hi hz0 hz1 hz2 rfl (by decide) v n xs hs hown y m c (flatN M) hx (by rw [flatN_len, hl, Nat.mul_one]) ?_ (flatN_one M) (by unfold maxLen; omega) (by omega) hbase ?_
    · intro j u hu
      rcases h4 with h4 | ⟨b, off, rfl, hb, hc⟩
      · have : M = [] := List.eq_nil_of_length_eq_zero (by omega)
        subst this
        cases hu
      · have := hc j u hu
        by_cases hj : j = 0
        · subst hj; simpa [Addr.add] using this
        · simpa [Addr.add, hj] using this
    · intro v' w' h2 h3 _
      have hform : ∃ a' c', v' = .slice a' (n + m) c' := by
        rcases h2.2 with ⟨rfl, e⟩ | ⟨g, cap, cur, rfl, _⟩
        · exact ⟨none, 0, by rw [e]⟩
        · exact ⟨_, cap, rfl⟩
      obtain ⟨a', c', rfl⟩ := hform
      exact hK a' c' w' h2 h3
theorem step_ints {ops : Array Oper} {o : Oper} {a : Act} {w : World} {K : Act → World → Prop} {Q : Exit → Act → World → Prop} {E : Prop} (hg : o.guard = none) (s x : Operand) (ho : o.op = Op.call { callee := Callee.builtin Builtin.append, args := #[s, x], argTypes := #[31, 31] })
    (base : Nat) (v : Value) (n : Nat) (xs : List Value) (hs : a.eval s = v) (hown : w.ownsRow base 3 1 v n xs)
    (al : Option Addr) (m c : Nat) (M : List Nat) (hx : a.eval x = .slice al m c) (hit : IlS w al m c M) (hn : n + m ≤ 1000000) {N : Nat} (hN : n + m = N) (hbase : base ≤ w.heap.size)
    (hK : ∀ a' c' w', w'.ownsRow base 3 1 (.slice a' N c') N (xs ++ flatN M) → w.grownBy w' v.ownBlock → K (a.put o.dst (.slice a' N c')) w') :
    if Region.wanted o (yielded ops a.tmps) = true then Oper.wp Tryz.prog o a w K Q else E := by
  have hw : Region.wanted o (yielded ops a.tmps) = true := by simp [Region.wanted, hg]
  rw [if_pos hw]
  exact wp_ints s x ho base v n xs hs hown al m c M hx hit hn hN hbase hK
theorem ints_empty (w : World) : (w.alloc (.cells #[] 3)).ownsRow w.heap.size 3 1 (.slice (some ⟨w.heap.size, 0, none⟩) 0 0) 0 [] :=
  ⟨rfl, .inr ⟨_, 0, #[], rfl, Nat.le_refl _, Go.Deep.blk_alloc_new _ _, Nat.le_refl _, Nat.zero_le _, rfl, rfl⟩⟩
theorem ints_one (w : World) (x : Nat) : IlS (w.alloc (.cells #[.int .i64 (x : Int)] 3)) (some ⟨w.heap.size, 0, none⟩) 1 1 [x] := by
  refine .inr ⟨_, rfl, rfl, Nat.le_refl _, by unfold maxLen; omega, .inr ⟨_, 0, rfl, by simp, fun j u hu => ?_⟩⟩
  rw [Nat.zero_add, cell_of_row _ _ j _ _ _ (Go.Deep.blk_alloc_new _ _)]
  have hj : j < 1 := by have := (List.getElem?_eq_some_iff.1 hu).1; simpa [flatN] using this
  obtain rfl : j = 0 := by omega
  exact hu
theorem ints_empty' {u v : World} {b base : Nat} (e : b = v.heap.size) (hb : base ≤ b) (g : Gr (v.alloc (.cells #[] 3)) u) : u.ownsRow base 3 1 (.slice (some ⟨b, 0, none⟩) 0 0) 0 [] := by
  subst e
  exact own_grI (own_baseI (ints_empty v) hb) g
theorem ints_one' {u v : World} {b : Nat} (x : Nat) (e : b = v.heap.size) (g : Gr (v.alloc (.cells #[.int .i64 (x : Int)] 3)) u) : IlS u (some ⟨b, 0, none⟩) 1 1 [x] := by
  subst e
  exact (ints_one v x).gr g
theorem IlS.kept {u u' : World} {b o n c g : Nat} {L : List Nat} (h : IlS u (some ⟨b, o, none⟩) n c L) (hg : u.grownBy u' (some g)) (hne : b ≠ g) : IlS u' (some ⟨b, o, none⟩) n c L := by
  rcases h with ⟨e, _⟩ | ⟨x, h0, h1, h2, h3, h4⟩
  · cases e
  · refine .inr ⟨x, h0, h1, h2, h3, ?_⟩
    rcases h4 with h4 | ⟨b', o', e, hb, hc⟩
    · exact .inl h4
    · subst e
      cases h0
      exact .inr ⟨b, o, rfl, Nat.lt_of_lt_of_le hb hg.size, fun j u hu => (World.cell?_of_block (a := ⟨b, o + j, none⟩) (hg.block b hb (fun e => hne (by cases e; rfl)))).trans (hc j u hu)⟩
theorem flatN3 (A B : List Nat) (x : Nat) : ([] ++ flatN A ++ flatN [x]) ++ flatN B = flatN (A ++ x :: B) := by simp [flatN]
/-- as ints by the index -/
theorem IlS.sli {w : World} {a : Option Addr} {n c : Nat} {L : List Nat} (h : IlS w a n c L) : SlI w a n (fun i => ((L.getD i 0 : Nat) : Int)) := by
  by_cases h0 : n = 0
  · exact .inl h0
  · exact .inr (h.at (by omega))
theorem flatN_app (L M : List Nat) : flatN (L ++ M) = flatN L ++ flatN M := by simp [flatN]
theorem ints_nil (w : World) (base : Nat) : w.ownsRow base 3 1 (.slice none 0 0) 0 (flatN []) := World.ownsRow_nil _ _ _ _
theorem IlS.slot {w : World} {base : Nat} {v : Value} {L : List Nat} (h : w.ownsRow base 3 1 v L.length (flatN L)) : ∃ a c, v = .slice a L.length c ∧ IlS w a L.length c L := IlS.of_own h rfl
end Go.Proofs.YtgbadbkipaccgaaGreat
