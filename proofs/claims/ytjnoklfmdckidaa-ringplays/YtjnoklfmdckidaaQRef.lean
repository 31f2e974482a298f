/- The document's ring in memory: its box, and the items in the order in which they came; what its Put and Jump do. No condition. -/
import Derived.Test.YtjnoklfmdckidaaQTold
import Derived.Laws.AppendOwnNone
namespace Go.Proofs.Ytjnoklfmdckidaa
open Go.RowKit
set_option maxRecDepth 20000

theorem info_item : (Try.prog.info? 48).map (fun i => (i.zero, i.size, i.bytes)) = some (some (.agg #[.int .i64 0, .int .i64 0]), 2, 16) := by kernel_rfl
/-- items as cells -/
def flat (L : List (Int × Int)) : List Value := L.flatMap fun e => [.int .i64 e.1, .int .i64 e.2]
theorem flat_nil : flat [] = [] := rfl
theorem flat_app (L M : List (Int × Int)) : flat (L ++ M) = flat L ++ flat M := by simp [flat]
theorem flat_cons (e : Int × Int) (L : List (Int × Int)) : flat (e :: L) = .int .i64 e.1 :: .int .i64 e.2 :: flat L := rfl
theorem flat_len : ∀ L : List (Int × Int), (flat L).length = L.length * 2
  | [] => rfl
  | e :: L => by rw [flat_cons, List.length_cons, List.length_cons, flat_len L, List.length_cons]; omega
theorem flat_one (L : List (Int × Int)) : ∀ u ∈ flat L, u.oneCell' = true := by
  intro u hu
  obtain ⟨e, _, h⟩ := List.mem_flatMap.1 hu
  rcases List.mem_cons.1 h with rfl | h
  · rfl
  · rcases List.mem_cons.1 h with rfl | h
    · rfl
    · cases h
theorem flat_get : ∀ (L : List (Int × Int)) (i : Nat) (e : Int × Int), L[i]? = some e → (flat L)[i * 2]? = some (.int .i64 e.1) ∧ (flat L)[i * 2 + 1]? = some (.int .i64 e.2)
  | [], i, e, h => by simp at h
  | f :: L, 0, e, h => by
    simp only [List.getElem?_cons_zero, Option.some.injEq] at h
    subst h
    exact ⟨rfl, rfl⟩
  | f :: L, i + 1, e, h => by
    have := flat_get L i e (by simpa using h)
    rw [flat_cons, show (i + 1) * 2 = i * 2 + 1 + 1 by omega]
    exact this

/-- v is a slice that holds L; behind it block g alone -/
def It (w : World) (v : Value) (L : List (Int × Int)) (g : Option Nat) : Prop :=
  (v = .slice none 0 0 ∧ L = [] ∧ g = none) ∨ ∃ b o c, g = some b ∧ v = .slice (some ⟨b, o, none⟩) L.length c ∧ b < w.heap.size ∧ L.length ≤ c ∧ ∀ j u, (flat L)[j]? = some u → w.cell? ⟨b, o + j, none⟩ = some u
theorem It.gr {w w' : World} {v : Value} {L : List (Int × Int)} {g : Option Nat} (h : It w v L g) (k : Gr w w') : It w' v L g := by
  rcases h with h | ⟨b, o, c, h1, h2, h3, h4, h5⟩
  · exact .inl h
  · exact .inr ⟨b, o, c, h1, h2, Nat.lt_of_lt_of_le h3 (Below.size k), h4, fun j u hu => cell_gr (h5 j u hu) k⟩
theorem It.kp {S : Nat → Prop} {w w' : World} {v : Value} {L : List (Int × Int)} {g : Option Nat} (h : It w v L g) (k : Kp S w w') (hs : ∀ b, g = some b → ¬ S b) : It w' v L g := by
  rcases h with h | ⟨b, o, c, h1, h2, h3, h4, h5⟩
  · exact .inl h
  · exact .inr ⟨b, o, c, h1, h2, Nat.lt_of_lt_of_le h3 k.size, h4, fun j u hu => k.cell (h5 j u hu) (hs b h1)⟩
theorem It.of_own {w : World} {base : Nat} {v : Value} {n : Nat} {L : List (Int × Int)} (h : w.ownsRow base 48 2 v n (flat L)) (hn : n = L.length) : ∃ g, It w v L g ∧ ∀ b, g = some b → base ≤ b := by
  subst hn
  rcases h.2 with ⟨rfl, h0⟩ | ⟨g, cap, cur, rfl, hb, hg, h1, h2, h3, h4⟩
  · exact ⟨none, .inl ⟨rfl, List.eq_nil_of_length_eq_zero h0, rfl⟩, fun b e => by cases e⟩
  · refine ⟨some g, .inr ⟨g, 0, cap, rfl, rfl, (Array.getElem?_eq_some_iff.1 hg).1, h1, fun j u hu => ?_⟩, fun b e => by cases e; exact hb⟩
    rw [Nat.zero_add, cell_of_row w g j cur _ _ hg, ← Array.getElem?_toList]
    rw [← h4, List.getElem?_take] at hu
    by_cases c : j < L.length * 2
    · rwa [if_pos c] at hu
    · rw [if_neg c] at hu; cases hu
theorem It.len {w : World} {v : Value} {L : List (Int × Int)} {g : Option Nat} (h : It w v L g) : ∃ a c, v = .slice a L.length c := by
  rcases h with ⟨rfl, rfl, _⟩ | ⟨b, o, c, h1, rfl, h3, h4, h5⟩
  · exact ⟨none, 0, rfl⟩
  · exact ⟨_, c, rfl⟩

/-- 'append(s, x...)', s of the call's own -/
theorem wp_items {o : Oper} {a : Act} {w : World} {K : Act → World → Prop} {Q : Exit → Act → World → Prop} (s x : Operand) (ho : o.op = Op.call { callee := Callee.builtin Builtin.append, args := #[s, x], argTypes := #[28, 28] })
    (base : Nat) (v : Value) (n : Nat) (xs : List Value) (hs : a.eval s = v) (hown : w.ownsRow base 48 2 v n xs)
    (M : List (Int × Int)) (g : Option Nat) (hit : It w (a.eval x) M g) (hn : n + M.length ≤ 1000000) {N : Nat} (hN : n + M.length = N) (hbase : base ≤ w.heap.size)
    (hK : ∀ a' c' w', w'.ownsRow base 48 2 (.slice a' N c') N (xs ++ flat M) → w.grownBy w' v.ownBlock → K (a.put o.dst (.slice a' N c')) w') :
    Oper.wp Try.prog o a w K Q := by
  subst hN
  obtain ⟨i0, hi, hz0, hz1, hz2⟩ := info_parts info_item
  rcases hit with ⟨hx, rfl, _⟩ | ⟨b, off, c, _, hx, _, _, hcell⟩
  · have hrun := run_append_owned_none (P := Try.prog) (w := w) base 28 o.type 48 i0 2 Try.underlying28 hi v n xs hown
    unfold Oper.wp
    simp [execOp, ho, resolve, invoke, builtin, hs, hx, hrun, Result.andThen]
    have hform : ∃ a' c', v = .slice a' n c' := by
      rcases hown.2 with ⟨rfl, rfl⟩ | ⟨g, cap, cur, rfl, _⟩
      · exact ⟨none, 0, rfl⟩
      · exact ⟨_, cap, rfl⟩
    obtain ⟨a', c', rfl⟩ := hform
    exact hK a' c' w (by simpa [flat] using hown) ⟨rfl, rfl, rfl, Nat.le_refl _, fun _ _ _ => rfl⟩
  · refine wp_append_own w s x 28 ho base 48 i0 (.agg #[.int .i64 0, .int .i64 0]) 2 16 Try.underlying28 hi hz0 hz1 hz2 rfl (by decide) v n xs hs hown ⟨b, off, none⟩ M.length c (flat M) hx (flat_len M) ?_ (flat_one M) (by unfold maxLen; omega) (by omega) hbase ?_
    · intro j u hu
      have := hcell j u hu
      by_cases hj : j = 0
      · subst hj; simpa [Addr.add] using this
      · simpa [Addr.add, hj] using this
    · intro v' w' h2 h3 _
      have hform : ∃ a' c', v' = .slice a' (n + M.length) c' := by
        rcases h2.2 with ⟨rfl, e⟩ | ⟨g, cap, cur, rfl, _⟩
        · exact ⟨none, 0, by rw [e]⟩
        · exact ⟨_, cap, rfl⟩
      obtain ⟨a', c', rfl⟩ := hform
      exact hK a' c' w' h2 h3
theorem wpList_items {ops : Array Oper} {rest : List Oper} {o : Oper} {a : Act} {w : World} {Q : Exit → Act → World → Prop} (hgd : o.guard = none) (s x : Operand) (ho : o.op = Op.call { callee := Callee.builtin Builtin.append, args := #[s, x], argTypes := #[28, 28] })
    (base : Nat) (v : Value) (n : Nat) (xs : List Value) (hs : a.eval s = v) (hown : w.ownsRow base 48 2 v n xs)
    (M : List (Int × Int)) (g : Option Nat) (hit : It w (a.eval x) M g) (hn : n + M.length ≤ 1000000) {N : Nat} (hN : n + M.length = N) (hbase : base ≤ w.heap.size)
    (h : ∀ a' c' w', w'.ownsRow base 48 2 (.slice a' N c') N (xs ++ flat M) → w.grownBy w' v.ownBlock → wpList Try.prog ops Q rest (a.put o.dst (.slice a' N c')) w') :
    wpList Try.prog ops Q (o :: rest) a w :=
  wpList_plain hgd fun _ hK => wp_items s x ho base v n xs hs hown M g hit hn hN hbase fun a' c' w' h2 h3 => hK _ _ (h a' c' w' h2 h3)
theorem step_items {ops : Array Oper} {o : Oper} {a : Act} {w : World} {K : Act → World → Prop} {Q : Exit → Act → World → Prop} {E : Prop} (hg : o.guard = none) (s x : Operand) (ho : o.op = Op.call { callee := Callee.builtin Builtin.append, args := #[s, x], argTypes := #[28, 28] })
    (base : Nat) (v : Value) (n : Nat) (xs : List Value) (hs : a.eval s = v) (hown : w.ownsRow base 48 2 v n xs)
    (M : List (Int × Int)) (g : Option Nat) (hit : It w (a.eval x) M g) (hn : n + M.length ≤ 1000000) {N : Nat} (hN : n + M.length = N) (hbase : base ≤ w.heap.size)
    (hK : ∀ a' c' w', w'.ownsRow base 48 2 (.slice a' N c') N (xs ++ flat M) → w.grownBy w' v.ownBlock → K (a.put o.dst (.slice a' N c')) w') :
    if Region.wanted o (yielded ops a.tmps) = true then Oper.wp Try.prog o a w K Q else E := by
  have hw : Region.wanted o (yielded ops a.tmps) = true := by simp [Region.wanted, hg]
  rw [if_pos hw]
  exact wp_items s x ho base v n xs hs hown M g hit hn hN hbase hK
theorem own_empty (w : World) : (w.alloc (.cells #[] 48)).ownsRow w.heap.size 48 2 (.slice (some ⟨w.heap.size, 0, none⟩) 0 0) 0 [] :=
  ⟨rfl, .inr ⟨_, 0, #[], rfl, Nat.le_refl _, Go.Deep.blk_alloc_new _ _, Nat.le_refl _, Nat.zero_le _, rfl, rfl⟩⟩
theorem it_one (w : World) (k x : Int) : It (w.alloc (.cells #[.int .i64 k, .int .i64 x] 48)) (.slice (some ⟨w.heap.size, 0, none⟩) 1 1) [(k, x)] (some w.heap.size) := by
  refine .inr ⟨_, 0, 1, rfl, rfl, by simp, Nat.le_refl _, fun j u hu => ?_⟩
  rw [Nat.zero_add, cell_of_row _ _ j _ _ _ (Go.Deep.blk_alloc_new _ _)]
  have hj : j < 2 := by have := (List.getElem?_eq_some_iff.1 hu).1; simpa [flat] using this
  rcases (by omega : j = 0 ∨ j = 1) with rfl | rfl <;> exact hu

/-- the cells of the document's ring -/
def pr (x y : Value) : Nat → Value := fun j => if j = 0 then x else y
/-- the document's ring in memory: its box at q, its items in block g -/
structure Rf (w : World) (q : Nat) (g : Option Nat) (a : Int) (L : List (Int × Int)) : Prop where
  apart : ∀ b, g = some b → b ≠ q
  mem : ∃ v, w.rowIs q 30 2 (pr (.int .i64 a) v) ∧ It w v L g
theorem Rf.q_lt {w : World} {q : Nat} {g : Option Nat} {a : Int} {L : List (Int × Int)} (h : Rf w q g a L) : q < w.heap.size := by
  obtain ⟨v, h1, _⟩ := h.mem
  exact h1.lt
theorem Rf.g_lt {w : World} {q : Nat} {g : Option Nat} {a : Int} {L : List (Int × Int)} (h : Rf w q g a L) {b : Nat} (hb : g = some b) : b < w.heap.size := by
  obtain ⟨v, _, h2⟩ := h.mem
  rcases h2 with ⟨_, _, e⟩ | ⟨b', o, c, h1, _, h3, _⟩
  · rw [e] at hb; cases hb
  · rw [h1] at hb; cases hb; exact h3
theorem Rf.kp {S : Nat → Prop} {w w' : World} {q : Nat} {g : Option Nat} {a : Int} {L : List (Int × Int)} (h : Rf w q g a L) (k : Kp S w w') (hq : ¬ S q) (hg : ∀ b, g = some b → ¬ S b) : Rf w' q g a L := by
  obtain ⟨v, h1, h2⟩ := h.mem
  exact ⟨h.apart, v, k.row h1 hq, h2.kp k hg⟩
theorem Rf.gr {w w' : World} {q : Nat} {g : Option Nat} {a : Int} {L : List (Int × Int)} (h : Rf w q g a L) (k : Gr w w') : Rf w' q g a L := h.kp (S := fun _ => False) k.kp (fun e => e) (fun _ _ e => e)
theorem Rf.open {w : World} {q : Nat} {g : Option Nat} {a : Int} {L : List (Int × Int)} (h : Rf w q g a L) : w.cell? ⟨q, 0, none⟩ = some (.int .i64 a) ∧ (∃ al c, w.cell? ⟨q, 1, none⟩ = some (.slice al L.length c) ∧ It w (.slice al L.length c) L g) ∧ ∀ i, w.frozen? ⟨q, i, none⟩ = false := by
  obtain ⟨v, h1, h2⟩ := h.mem
  obtain ⟨al, c, rfl⟩ := h2.len
  exact ⟨h1.cell (i := 0) (by omega), ⟨al, c, h1.cell (i := 1) (by omega), h2⟩, fun i => h1.frozen i⟩
theorem Rf.lay {w w1 : World} {q : Nat} {g g' : Option Nat} {a : Int} {L M : List (Int × Int)} (h : Rf w q g a L) (k : Gr w w1) {v : Value} (hi : It w1 v M g') (hg : ∀ b, g' = some b → w.heap.size ≤ b) :
    Rf (w1.setCell ⟨q, 1, none⟩ v) q g' a M ∧ Kp (fun b => b = q) w (w1.setCell ⟨q, 1, none⟩ v) := by
  obtain ⟨v0, h1, _⟩ := h.mem
  have hq := h1.lt
  have hap : ∀ b, g' = some b → b ≠ q := fun b hb => by have := hg b hb; omega
  refine ⟨⟨hap, v, ((row_gr h1 k).set 1 v).congr ?_, hi.kp (Kp.set (S := fun b => b = q) (Kp.refl _ w1) (p := ⟨q, 1, none⟩) (.inl rfl) _) hap⟩, Kp.set (S := fun b => b = q) k.kp (p := ⟨q, 1, none⟩) (.inl rfl) _⟩
  intro i hi
  unfold pr
  rcases (by omega : i = 0 ∨ i = 1) with rfl | rfl <;> rfl
theorem Rf.at {w w1 : World} {q : Nat} {g : Option Nat} {a : Int} {L : List (Int × Int)} (h : Rf w q g a L) (k : Gr w w1) (x : Int) :
    Rf (w1.setCell ⟨q, 0, none⟩ (.int .i64 x)) q g x L ∧ Kp (fun b => b = q) w (w1.setCell ⟨q, 0, none⟩ (.int .i64 x)) := by
  obtain ⟨v0, h1, h2⟩ := (h.gr k).mem
  refine ⟨⟨h.apart, v0, (h1.set 0 _).congr ?_, h2.kp (Kp.set (S := fun b => b = q) (Kp.refl _ w1) (p := ⟨q, 0, none⟩) (.inl rfl) _) h.apart⟩, Kp.set (S := fun b => b = q) k.kp (p := ⟨q, 0, none⟩) (.inl rfl) _⟩
  intro i hi
  unfold pr
  rcases (by omega : i = 0 ∨ i = 1) with rfl | rfl <;> rfl

set_option maxHeartbeats 1000000 in
theorem rput_yes {w : World} {q : Nat} {g : Option Nat} {a : Int} {L : List (Int × Int)} (h : Rf w q g a L) (k x : Int) (hk1 : a ≤ k) (hk2 : k ≤ a + 255) (_ha0 : 0 ≤ a) (_ha : a ≤ 4611686018427387904) (hL : L.length ≤ 900000) :
    Calls Try.prog 12 #[.pointer (some ⟨q, 0, none⟩), .int .i64 k, .int .i64 x] w fun e w' => e = .returned (.bool true) ∧ (∃ g', Rf w' q g' a (L ++ [(k, x)]) ∧ ∀ b, g' = some b → w.heap.size ≤ b) ∧ Kp (fun b => b = q) w w' := by
  obtain ⟨c0, ⟨al, c, c1, hit⟩, cf⟩ := h.open
  have hq := h.q_lt
  have hr : k - a < 256 := by omega
  have HI := hide hit
  clear hit
  go_enter Try.func12, Try.ntmps12
  go_wp2_with (first | (at_builtin; refine wpList_items rfl (.tmp 23) (.tmp 27) rfl w.heap.size (.slice (some ⟨w.heap.size, 0, none⟩) 0 0) 0 [] rfl (own_empty w) L g (HI.out.gr ((Gr.refl w).alloc _)) (by omega) (Nat.zero_add _) (by simp) ?_; intro a1 k1 w1 ho1 hgr1; have hG1 := Gr.grown ((Gr.refl w).alloc _) hgr1 (fun b e => (by cases e; exact Nat.le_refl _))) | (at_builtin; refine wpList_items rfl (.tmp 28) (.tmp 32) rfl w.heap.size _ L.length _ rfl (ho1.alloc _) [(k, x)] _ (it_one w1 k x) (by simp; omega) rfl (Nat.le_trans hG1.size (by simp)) ?_; intro a2 k2 w2 ho2 hgr2; have hG2 := Gr.grown (hG1.alloc _) hgr2 (fun b e => (ho1.lt b e).1); have e1 := cell_gr c1 hG2; have ef := fun i => (Gr.frozen hG2 q i hq).trans (cf i)))
  go_ret
  have hfl : ([] ++ flat L ++ flat [(k, x)]) = flat (L ++ [(k, x)]) := by rw [List.nil_append, flat_app]
  rw [hfl] at ho2
  obtain ⟨g', hi', hb'⟩ := It.of_own ho2 (by simp)
  obtain ⟨r1, r2⟩ := h.lay hG2 hi' hb'
  exact ⟨rfl, ⟨g', r1, hb'⟩, r2⟩
theorem rput_no {w : World} {q : Nat} {g : Option Nat} {a : Int} {L : List (Int × Int)} (h : Rf w q g a L) (k x : Int) (hk : k < a ∨ a + 255 < k) (ha0 : 0 ≤ a) (hb : k ≤ 9223372036854775807) :
    Calls Try.prog 12 #[.pointer (some ⟨q, 0, none⟩), .int .i64 k, .int .i64 x] w fun e w' => e = .returned (.bool false) ∧ w' = w := by
  obtain ⟨c0, ⟨al, c, c1, hit⟩, cf⟩ := h.open
  clear hit
  by_cases h1 : k < a
  · clear hk
    go_enter Try.func12, Try.ntmps12
    go_wp2_with fail
    go_ret
    exact ⟨rfl, rfl⟩
  · have h2 : 256 ≤ k - a := by omega
    clear hk
    go_enter Try.func12, Try.ntmps12
    go_wp2_with fail
    go_ret
    exact ⟨rfl, rfl⟩
theorem rjump_yes {w : World} {q : Nat} {g : Option Nat} {a : Int} (h : Rf w q g a []) (k : Int) (hk1 : a ≤ k) (hk2 : k ≤ 1099511627776) :
    Calls Try.prog 16 #[.pointer (some ⟨q, 0, none⟩), .int .i64 k] w fun e w' => e = .returned (.bool true) ∧ Rf w' q g k [] ∧ Kp (fun b => b = q) w w' := by
  obtain ⟨c0, ⟨al, c, c1, hit⟩, cf⟩ := h.open
  have c1 : w.cell? ⟨q, 1, none⟩ = some (.slice al 0 c) := c1
  clear hit
  go_enter Try.func16, Try.ntmps16
  go_wp2_with fail
  go_ret
  exact ⟨rfl, h.at (Gr.refl w) k⟩
theorem rjump_no {w : World} {q : Nat} {g : Option Nat} {a : Int} {L : List (Int × Int)} (h : Rf w q g a L) (k : Int) (hk : 0 < L.length ∨ k < a ∨ 1099511627776 < k) (hL : L.length ≤ 900000) :
    Calls Try.prog 16 #[.pointer (some ⟨q, 0, none⟩), .int .i64 k] w fun e w' => e = .returned (.bool false) ∧ w' = w := by
  obtain ⟨c0, ⟨al, c, c1, hit⟩, cf⟩ := h.open
  clear hit
  by_cases h0 : 0 < L.length
  · have h1 : (0 : Int) < (L.length : Int) := by omega
    clear hk
    go_enter Try.func16, Try.ntmps16
    go_wp2_with fail
    go_ret
    exact ⟨rfl, rfl⟩
  · have h1 : ¬ (0 : Int) < (L.length : Int) := by omega
    by_cases h2 : k < a
    · clear hk
      go_enter Try.func16, Try.ntmps16
      go_wp2_with fail
      go_ret
      exact ⟨rfl, rfl⟩
    · have h3 : 1099511627776 < k := by omega
      clear hk
      go_enter Try.func16, Try.ntmps16
      go_wp2_with fail
      go_ret
      exact ⟨rfl, rfl⟩
end Go.Proofs.Ytjnoklfmdckidaa
