/- Seeds in memory: a slice of seeds as a list; append. No condition. -/
import Derived.Test.YtigoehoaplndiaaSMath8
import Derived.Test.YtigoehoaplndiaaKBase
import Derived.Test.YtigoehoaplndiaaTMates
import Derived.Laws.AppendOwnNone
namespace Go.Proofs.Ytigoehoaplndiaa
open Go.RowKit
set_option maxRecDepth 20000

theorem info_seed : (Try.prog.info? 39).map (fun i => (i.zero, i.size, i.bytes)) = some (some (.agg #[.int .i64 0, .int .i64 0, .int .i64 0]), 3, 24) := by kernel_rfl
/-- a seed's cells -/
def encS (x : Sd) : List Value := [.int .i64 x.1, .int .i64 x.2.1, .int .i64 x.2.2]
/-- seeds as cells -/
def flatS (L : List Sd) : List Value := L.flatMap encS
theorem flatS_nil : flatS [] = [] := rfl
theorem flatS_app (L M : List Sd) : flatS (L ++ M) = flatS L ++ flatS M := by simp [flatS]
theorem flatS_cons (e : Sd) (L : List Sd) : flatS (e :: L) = .int .i64 e.1 :: .int .i64 e.2.1 :: .int .i64 e.2.2 :: flatS L := rfl
theorem flatS_len : ∀ L : List Sd, (flatS L).length = L.length * 3
  | [] => rfl
  | e :: L => by rw [flatS_cons, List.length_cons, List.length_cons, List.length_cons, flatS_len L, List.length_cons]; omega
theorem flatS_one (L : List Sd) : ∀ u ∈ flatS L, u.oneCell' = true := by
  intro u hu
  obtain ⟨e, _, h⟩ := List.mem_flatMap.1 hu
  rcases List.mem_cons.1 h with rfl | h
  · rfl
  · rcases List.mem_cons.1 h with rfl | h
    · rfl
    · rcases List.mem_cons.1 h with rfl | h
      · rfl
      · cases h
theorem flatS_get : ∀ (L : List Sd) (i : Nat) (e : Sd), L[i]? = some e → (flatS L)[i * 3]? = some (.int .i64 e.1) ∧ (flatS L)[i * 3 + 1]? = some (.int .i64 e.2.1) ∧ (flatS L)[i * 3 + 2]? = some (.int .i64 e.2.2)
  | [], i, e, h => by simp at h
  | f :: L, 0, e, h => by
    simp only [List.getElem?_cons_zero, Option.some.injEq] at h
    subst h
    exact ⟨rfl, rfl, rfl⟩
  | f :: L, i + 1, e, h => by
    have := flatS_get L i e (by simpa using h)
    rw [flatS_cons, show (i + 1) * 3 = i * 3 + 1 + 1 + 1 by omega]
    exact this
theorem flatS_pre {L M : List Sd} (h : ∃ K, L = M ++ K) {j : Nat} {u : Value} (hj : (flatS M)[j]? = some u) : (flatS L)[j]? = some u := by
  obtain ⟨K, rfl⟩ := h
  rw [flatS_app, List.getElem?_append_left (List.getElem?_eq_some_iff.1 hj).1]
  exact hj
/-- the i-th seed -/
def el (L : List Sd) (i : Nat) : Sd := L.getD i (0, 0, 0)
theorem el_get? {L : List Sd} {i : Nat} (h : i < L.length) : L[i]? = some (el L i) := by simp [el, h]
theorem el_getElem {L : List Sd} {i : Nat} (h : i < L.length) : L[i] = el L i := by simp [el, h]
theorem el_of {L : List Sd} {i : Nat} {x : Sd} (h : L[i]? = some x) : el L i = x := by simp [el, h]
theorem el_mem {L : List Sd} {i : Nat} (h : i < L.length) : el L i ∈ L := List.mem_of_getElem? (el_get? h)
theorem mem_el {L : List Sd} {x : Sd} (h : x ∈ L) : ∃ i, i < L.length ∧ el L i = x := by
  obtain ⟨i, hi⟩ := List.mem_iff_getElem?.1 h
  exact ⟨i, (List.getElem?_eq_some_iff.1 hi).1, el_of hi⟩
theorem take_el {L : List Sd} {i : Nat} (h : i < L.length) : L.take (i + 1) = L.take i ++ [el L i] := by
  rw [List.take_add_one, el_get? h]
  rfl
theorem el_take {L : List Sd} {i n : Nat} (h : i < n) : el (L.take n) i = el L i := by simp [el, List.getD, h]

/-- the slice at a, of n seeds, with room for c, holds L -/
def SlS (w : World) (a : Option Addr) (n c : Nat) (L : List Sd) : Prop :=
  (a = none ∧ n = 0 ∧ c = 0 ∧ L = []) ∨ ∃ x, a = some x ∧ L.length = n ∧ n ≤ c ∧ c ≤ maxLen ∧ (n = 0 ∨ ∃ b o, x = ⟨b, o, none⟩ ∧ b < w.heap.size ∧ ∀ j u, (flatS L)[j]? = some u → w.cell? ⟨b, o + j, none⟩ = some u)
theorem SlS.len {w : World} {a : Option Addr} {n c : Nat} {L : List Sd} (h : SlS w a n c L) : L.length = n ∧ n ≤ c ∧ c ≤ maxLen := by
  rcases h with ⟨_, rfl, rfl, rfl⟩ | ⟨x, _, h1, h2, h3, _⟩
  · exact ⟨rfl, Nat.le_refl _, Nat.zero_le _⟩
  · exact ⟨h1, h2, h3⟩
theorem SlS.gr {w w' : World} {a : Option Addr} {n c : Nat} {L : List Sd} (h : SlS w a n c L) (k : Gr w w') : SlS w' a n c L := by
  rcases h with h | ⟨x, h0, h1, h2, h3, h4⟩
  · exact .inl h
  · refine .inr ⟨x, h0, h1, h2, h3, ?_⟩
    rcases h4 with h4 | ⟨b, o, e, hb, hc⟩
    · exact .inl h4
    · exact .inr ⟨b, o, e, Nat.lt_of_lt_of_le hb k.size, fun j u hu => cell_gr (hc j u hu) k⟩
/-- its seeds' cells -/
theorem SlS.at {w : World} {a : Option Addr} {n c : Nat} {L : List Sd} (h : SlS w a n c L) (hn : 0 < n) : ∃ b o, a = some ⟨b, o, none⟩ ∧ b < w.heap.size ∧
    ∀ i, i < n → w.cell? ⟨b, o + i * 3, none⟩ = some (.int .i64 (el L i).1) ∧ w.cell? ⟨b, o + i * 3 + 1, none⟩ = some (.int .i64 (el L i).2.1) ∧ w.cell? ⟨b, o + i * 3 + 2, none⟩ = some (.int .i64 (el L i).2.2) := by
  have hl := h.len.1
  rcases h with ⟨_, rfl, _, _⟩ | ⟨x, rfl, h1, h2, h3, h4 | ⟨b, o, rfl, hb, hc⟩⟩
  · omega
  · omega
  · refine ⟨b, o, rfl, hb, fun i hi => ?_⟩
    obtain ⟨e1, e2, e3⟩ := flatS_get L i (el L i) (el_get? (by omega))
    have := hc _ _ e1; have g2 := hc _ _ e2; have g3 := hc _ _ e3
    rw [← Nat.add_assoc] at g2 g3
    exact ⟨this, g2, g3⟩
theorem SlS.of_own {w : World} {base : Nat} {v : Value} {n : Nat} {L : List Sd} (h : w.ownsRow base 39 3 v n (flatS L)) (hn : L.length = n) : ∃ a c, v = .slice a n c ∧ SlS w a n c L := by
  rcases h.2 with ⟨rfl, h0⟩ | ⟨g, cap, cur, rfl, hb, hg, h1, h2, h3, h4⟩
  · subst h0
    exact ⟨none, 0, rfl, .inl ⟨rfl, rfl, rfl, List.eq_nil_of_length_eq_zero hn⟩⟩
  · refine ⟨_, cap, rfl, .inr ⟨_, rfl, hn, h1, h2, .inr ⟨g, 0, rfl, (Array.getElem?_eq_some_iff.1 hg).1, fun j u hu => ?_⟩⟩⟩
    rw [Nat.zero_add, cell_of_row w g j cur _ _ hg, ← Array.getElem?_toList]
    rw [← h4, List.getElem?_take] at hu
    by_cases c : j < n * 3
    · rwa [if_pos c] at hu
    · rw [if_neg c] at hu; cases hu
/-- of its first m -/
theorem SlS.take {w : World} {a : Option Addr} {n c m : Nat} {L : List Sd} (h : SlS w a n c L) (hm : m ≤ n) : SlS w a m c (L.take m) := by
  have hl := h.len.1
  rcases h with ⟨h0, rfl, h2, rfl⟩ | ⟨x, h0, h1, h2, h3, h4⟩
  · have : m = 0 := by omega
    subst this
    exact .inl ⟨h0, rfl, h2, rfl⟩
  · refine .inr ⟨x, h0, by rw [List.length_take]; omega, by omega, h3, ?_⟩
    rcases h4 with h4 | ⟨b, o, e, hb, hc⟩
    · exact .inl (by omega)
    · exact .inr ⟨b, o, e, hb, fun j u hu => hc j u (flatS_pre ⟨L.drop m, (List.take_append_drop m L).symm⟩ hu)⟩
/-- from the m-th on -/
theorem flatS_drop (L : List Sd) : ∀ m j, (flatS (L.drop m))[j]? = (flatS L)[m * 3 + j]? := by
  induction L with
  | nil => intro m j; simp [flatS]
  | cons e L ih =>
    intro m j
    cases m with
    | zero => simp
    | succ m =>
      rw [List.drop_succ_cons, ih, flatS_cons, show (m + 1) * 3 + j = m * 3 + j + 1 + 1 + 1 by omega]
      rfl
theorem SlS.drop {w : World} {b o n c m : Nat} {L : List Sd} (h : SlS w (some ⟨b, o, none⟩) n c L) (hm : m ≤ n) : SlS w (some ⟨b, o + m * 3, none⟩) (n - m) (c - m) (L.drop m) := by
  rcases h with ⟨h0, _⟩ | ⟨x, h0, h1, h2, h3, h4⟩
  · cases h0
  · cases h0
    refine .inr ⟨_, rfl, by rw [List.length_drop]; omega, by omega, by omega, ?_⟩
    rcases h4 with h4 | ⟨b', o', e, hb, hc⟩
    · exact .inl (by omega)
    · cases e
      refine .inr ⟨b, _, rfl, hb, fun j u hu => ?_⟩
      rw [flatS_drop] at hu
      rw [Nat.add_assoc]
      exact hc _ _ hu
theorem SlS.addr {w : World} {a : Option Addr} {n c : Nat} {L : List Sd} (h : SlS w a n c L) : (a = none ∧ n = 0 ∧ c = 0 ∧ L = []) ∨ ∃ x, a = some x := by
  rcases h with h | ⟨x, h0, _⟩
  · exact .inl h
  · exact .inr ⟨x, h0⟩
theorem own_gr3 {w w' : World} {base : Nat} {v : Value} {n : Nat} {xs : List Value} (h : w.ownsRow base 39 3 v n xs) (g : Gr w w') : w'.ownsRow base 39 3 v n xs := by
  refine ⟨h.1, ?_⟩
  rcases h.2 with h0 | ⟨b, cap, cur, rfl, hb, hg, r⟩
  · exact .inl h0
  · exact .inr ⟨b, cap, cur, rfl, hb, (Below.block g b (Array.getElem?_eq_some_iff.1 hg).1).trans hg, r⟩
theorem own_base {w : World} {base base' : Nat} {v : Value} {n : Nat} {xs : List Value} (h : w.ownsRow base 39 3 v n xs) (hb : base' ≤ base) : w.ownsRow base' 39 3 v n xs := by
  refine ⟨h.1, ?_⟩
  rcases h.2 with h0 | ⟨b, cap, cur, rfl, h1, r⟩
  · exact .inl h0
  · exact .inr ⟨b, cap, cur, rfl, Nat.le_trans hb h1, r⟩

/-- 'append(s, x...)', s of the call's own -/
theorem wp_seeds {o : Oper} {a : Act} {w : World} {K : Act → World → Prop} {Q : Exit → Act → World → Prop} (s x : Operand) (ho : o.op = Op.call { callee := Callee.builtin Builtin.append, args := #[s, x], argTypes := #[26, 26] })
    (base : Nat) (v : Value) (n : Nat) (xs : List Value) (hs : a.eval s = v) (hown : w.ownsRow base 39 3 v n xs)
    (al : Option Addr) (m c : Nat) (M : List Sd) (hx : a.eval x = .slice al m c) (hit : SlS w al m c M) (hn : n + m ≤ 1000000) {N : Nat} (hN : n + m = N) (hbase : base ≤ w.heap.size)
    (hK : ∀ a' c' w', w'.ownsRow base 39 3 (.slice a' N c') N (xs ++ flatS M) → w.grownBy w' v.ownBlock → K (a.put o.dst (.slice a' N c')) w') :
    Oper.wp Try.prog o a w K Q := by
  subst hN
  obtain ⟨i0, hi, hz0, hz1, hz2⟩ := info_parts info_seed
  rcases hit with ⟨rfl, rfl, rfl, rfl⟩ | ⟨y, rfl, hl, _, _, h4⟩
  · have hrun := run_append_owned_none (P := Try.prog) (w := w) base 26 o.type 39 i0 3 Try.underlying26 hi v n xs hown
    unfold Oper.wp
    simp [execOp, ho, resolve, invoke, builtin, hs, hx, hrun, Result.andThen]
    have hform : ∃ a' c', v = .slice a' n c' := by
      rcases hown.2 with ⟨rfl, rfl⟩ | ⟨g, cap, cur, rfl, _⟩
      · exact ⟨none, 0, rfl⟩
      · exact ⟨_, cap, rfl⟩
    obtain ⟨a', c', rfl⟩ := hform
    exact hK a' c' w (by simpa [flatS] using hown) ⟨rfl, rfl, rfl, Nat.le_refl _, fun _ _ _ => rfl⟩
  · refine wp_append_own w s x 26 ho base 39 i0 (.agg #[.int .i64 0, .int .i64 0, .int .i64 0]) 3 24 Try.underlying26 hi hz0 hz1 hz2 rfl (by decide) v n xs hs hown y m c (flatS M) hx (by rw [flatS_len, hl]) ?_ (flatS_one M) (by unfold maxLen; omega) (by omega) hbase ?_
    · intro j u hu
      rcases h4 with h4 | ⟨b, off, rfl, hb, hc⟩
      · have : M = [] := List.eq_nil_of_length_eq_zero (by omega)
        subst this
        cases hu
      · have := hc j u hu
        by_cases hj : j = 0
        · subst hj; simpa [Addr.add] using this
        · simpa [Addr.add, hj] using this
    · intro v' w' h2 h3 _
      have hform : ∃ a' c', v' = .slice a' (n + m) c' := by
        rcases h2.2 with ⟨rfl, e⟩ | ⟨g, cap, cur, rfl, _⟩
        · exact ⟨none, 0, by rw [e]⟩
        · exact ⟨_, cap, rfl⟩
      obtain ⟨a', c', rfl⟩ := hform
      exact hK a' c' w' h2 h3
theorem wpList_seeds {ops : Array Oper} {rest : List Oper} {o : Oper} {a : Act} {w : World} {Q : Exit → Act → World → Prop} (hgd : o.guard = none) (s x : Operand) (ho : o.op = Op.call { callee := Callee.builtin Builtin.append, args := #[s, x], argTypes := #[26, 26] })
    (base : Nat) (v : Value) (n : Nat) (xs : List Value) (hs : a.eval s = v) (hown : w.ownsRow base 39 3 v n xs)
    (al : Option Addr) (m c : Nat) (M : List Sd) (hx : a.eval x = .slice al m c) (hit : SlS w al m c M) (hn : n + m ≤ 1000000) {N : Nat} (hN : n + m = N) (hbase : base ≤ w.heap.size)
    (h : ∀ a' c' w', w'.ownsRow base 39 3 (.slice a' N c') N (xs ++ flatS M) → w.grownBy w' v.ownBlock → wpList Try.prog ops Q rest (a.put o.dst (.slice a' N c')) w') :
    wpList Try.prog ops Q (o :: rest) a w :=
  wpList_plain hgd fun _ hK => wp_seeds s x ho base v n xs hs hown al m c M hx hit hn hN hbase fun a' c' w' h2 h3 => hK _ _ (h a' c' w' h2 h3)
theorem step_seeds {ops : Array Oper} {o : Oper} {a : Act} {w : World} {K : Act → World → Prop} {Q : Exit → Act → World → Prop} {E : Prop} (hg : o.guard = none) (s x : Operand) (ho : o.op = Op.call { callee := Callee.builtin Builtin.append, args := #[s, x], argTypes := #[26, 26] })
    (base : Nat) (v : Value) (n : Nat) (xs : List Value) (hs : a.eval s = v) (hown : w.ownsRow base 39 3 v n xs)
    (al : Option Addr) (m c : Nat) (M : List Sd) (hx : a.eval x = .slice al m c) (hit : SlS w al m c M) (hn : n + m ≤ 1000000) {N : Nat} (hN : n + m = N) (hbase : base ≤ w.heap.size)
    (hK : ∀ a' c' w', w'.ownsRow base 39 3 (.slice a' N c') N (xs ++ flatS M) → w.grownBy w' v.ownBlock → K (a.put o.dst (.slice a' N c')) w') :
    if Region.wanted o (yielded ops a.tmps) = true then Oper.wp Try.prog o a w K Q else E := by
  have hw : Region.wanted o (yielded ops a.tmps) = true := by simp [Region.wanted, hg]
  rw [if_pos hw]
  exact wp_seeds s x ho base v n xs hs hown al m c M hx hit hn hN hbase hK
theorem seeds_empty (w : World) : (w.alloc (.cells #[] 39)).ownsRow w.heap.size 39 3 (.slice (some ⟨w.heap.size, 0, none⟩) 0 0) 0 [] :=
  ⟨rfl, .inr ⟨_, 0, #[], rfl, Nat.le_refl _, Go.Deep.blk_alloc_new _ _, Nat.le_refl _, Nat.zero_le _, rfl, rfl⟩⟩
theorem seeds_one (w : World) (x : Sd) : SlS (w.alloc (.cells #[.int .i64 x.1, .int .i64 x.2.1, .int .i64 x.2.2] 39)) (some ⟨w.heap.size, 0, none⟩) 1 1 [x] := by
  refine .inr ⟨_, rfl, rfl, Nat.le_refl _, by unfold maxLen; omega, .inr ⟨_, 0, rfl, by simp, fun j u hu => ?_⟩⟩
  rw [Nat.zero_add, cell_of_row _ _ j _ _ _ (Go.Deep.blk_alloc_new _ _)]
  have hj : j < 3 := by have := (List.getElem?_eq_some_iff.1 hu).1; simpa [flatS, encS] using this
  rcases (by omega : j = 0 ∨ j = 1 ∨ j = 2) with rfl | rfl | rfl <;> exact hu

end Go.Proofs.Ytigoehoaplndiaa
