/- What HeapPlays lays beside its heap: those that wait, sorted, in a list of its own; append of pairs. No condition. -/
import Derived.Test.YtnkjehbbcjnfcaaHSBase13
import Derived.Deep.RegionHeld3
namespace Go.Proofs.Ytnkjehbbcjnfcaa
open Go.RowKit
set_option maxRecDepth 20000

theorem insP_split (x : Int × Int) : ∀ (S : List (Int × Int)) (a : Nat), a ≤ S.length → (∀ i, i < a → ltP (elP S i) x = true) → (a = S.length ∨ ltP (elP S a) x = false) → insP x S = S.take a ++ x :: S.drop a
  | [], a, ha, _, _ => by
    have : a = 0 := by simpa using ha
    subst this
    rfl
  | y :: S, 0, _, _, h2 => by
    rcases h2 with h2 | h2
    · simp at h2
    · have h2 : ltP y x = false := h2
      simp [insP, h2]
  | y :: S, a + 1, ha, h1, h2 => by
    have h0 : ltP y x = true := h1 0 (by omega)
    have ih := insP_split x S a (by simpa using ha) (fun i hi => h1 (i + 1) (by omega)) (by
      rcases h2 with h2 | h2
      · exact .inl (by simpa using h2)
      · exact .inr h2)
    simp [insP, h0, ih]
theorem PlS.take {w : World} {a : Option Addr} {n c m : Nat} {L : List (Int × Int)} (h : PlS w a n c L) (hm : m ≤ n) : PlS w a m c (L.take m) := by
  obtain ⟨h1, h2, h3, h4⟩ := h
  refine ⟨by rw [List.length_take]; omega, by omega, h3, ?_⟩
  rcases h4 with h4 | ⟨b, o, e, hb, hc⟩
  · exact .inl (by omega)
  · refine .inr ⟨b, o, e, hb, fun i hi => ?_⟩
    have : elP (L.take m) i = elP L i := by simp [elP, List.getD, hi]
    rw [this]
    exact hc i (by omega)
theorem PlS.drop {w : World} {b o n c m : Nat} {L : List (Int × Int)} (h : PlS w (some ⟨b, o, none⟩) n c L) (hm : m ≤ n) : PlS w (some ⟨b, o + m * 2, none⟩) (n - m) (c - m) (L.drop m) := by
  obtain ⟨h1, h2, h3, h4⟩ := h
  refine ⟨by rw [List.length_drop]; omega, by omega, by omega, ?_⟩
  rcases h4 with h4 | ⟨b', o', e, hb, hc⟩
  · exact .inl (by omega)
  · cases e
    refine .inr ⟨b, _, rfl, hb, fun i hi => ?_⟩
    have : elP (L.drop m) i = elP L (m + i) := by simp [elP, List.getD]
    rw [this, show o + m * 2 + i * 2 = o + (m + i) * 2 by omega]
    exact hc (m + i) (by omega)
theorem PlS.kp {S : Nat → Prop} {w w' : World} {a : Option Addr} {n c k : Nat} {L : List (Int × Int)} (h : PlS w a n c L) (g : Kp S w w') (hs : ∀ b, (Value.slice a k c).ownBlock = some b → ¬ S b) : PlS w' a n c L := by
  obtain ⟨h1, h2, h3, h4⟩ := h
  refine ⟨h1, h2, h3, ?_⟩
  rcases h4 with h4 | ⟨b, o, rfl, hb, hc⟩
  · exact .inl h4
  · exact .inr ⟨b, o, rfl, Nat.lt_of_lt_of_le hb g.size, fun i hi => ⟨g.cell (hc i hi).1 (hs b rfl), g.cell (hc i hi).2 (hs b rfl)⟩⟩
theorem flatP_cell (L : List (Int × Int)) : ∀ u ∈ flatP L, u.oneCell' = true := by
  intro u hu
  obtain ⟨e, _, h⟩ := List.mem_flatMap.1 hu
  rcases List.mem_cons.1 h with rfl | h
  · rfl
  · rcases List.mem_cons.1 h with rfl | h
    · rfl
    · cases h
theorem pls_cells {w : World} {y : Addr} {m c : Nat} {M : List (Int × Int)} (hit : PlS w (some y) m c M) (hm : 0 < m) : ∀ j u, (flatP M)[j]? = some u → w.cell? (y.add j) = some u := by
  intro j u hu
  obtain ⟨b, off, e, hb, hc⟩ := hit.at hm
  cases e
  have hj : j < M.length * 2 := by rw [← flatP_len]; exact (List.getElem?_eq_some_iff.1 hu).1
  have hl := hit.1
  have key : w.cell? ⟨b, off + j, none⟩ = some u := by
    have q := hc (j / 2) (by omega)
    have r := flatP_get M (j / 2) (elP M (j / 2)) (elP_get? (by omega))
    rcases (by omega : j = j / 2 * 2 ∨ j = j / 2 * 2 + 1) with e | e
    · rw [e] at hu ⊢
      rw [r.1] at hu
      cases hu
      exact q.1
    · rw [e] at hu ⊢
      rw [r.2] at hu
      cases hu
      exact q.2
  by_cases h0 : j = 0
  · subst h0; simpa [Addr.add] using key
  · simpa [Addr.add, h0] using key
/-- 'append(s, x...)', s of the call's own -/
theorem wp_pairs (T E : TypeId) (htu : Try.prog.underlying T = some (.slice E)) (hinfo : (Try.prog.info? E).map (fun i => (i.zero, i.size, i.bytes)) = some (some (.agg #[.int .i64 0, .int .i64 0]), 2, 16))
    {o : Oper} {a : Act} {w : World} {K : Act → World → Prop} {Q : Exit → Act → World → Prop} (s x : Operand) (ho : o.op = Op.call { callee := Callee.builtin Builtin.append, args := #[s, x], argTypes := #[T, T] })
    (base : Nat) (v : Value) (n : Nat) (xs : List Value) (hs : a.eval s = v) (hown : w.ownsRow base E 2 v n xs)
    (al : Option Addr) (m c : Nat) (M : List (Int × Int)) (hx : a.eval x = .slice al m c) (hit : PlS w al m c M) (hal : al = none → m = 0 ∧ c = 0) (hn : n + m ≤ 1000000) {N : Nat} (hN : n + m = N) (hbase : base ≤ w.heap.size)
    (hK : ∀ a' c' w', w'.ownsRow base E 2 (.slice a' N c') N (xs ++ flatP M) → w.grownBy w' v.ownBlock → K (a.put o.dst (.slice a' N c')) w') :
    Oper.wp Try.prog o a w K Q := by
  subst hN
  obtain ⟨i0, hi, hz0, hz1, hz2⟩ := info_parts hinfo
  have hl := hit.1
  cases al with
  | none =>
    obtain ⟨rfl, rfl⟩ := hal rfl
    obtain rfl : M = [] := List.eq_nil_of_length_eq_zero hl
    have hrun := run_append_owned_none (P := Try.prog) (w := w) base T o.type E i0 2 htu hi v n xs hown
    unfold Oper.wp
    simp [execOp, ho, resolve, invoke, builtin, hs, hx, hrun, Result.andThen]
    have hform : ∃ a' c', v = .slice a' n c' := by
      rcases hown.2 with ⟨rfl, rfl⟩ | ⟨g, cap, cur, rfl, _⟩
      · exact ⟨none, 0, rfl⟩
      · exact ⟨_, cap, rfl⟩
    obtain ⟨a', c', rfl⟩ := hform
    exact hK a' c' w (by simpa [flatP] using hown) ⟨rfl, rfl, rfl, Nat.le_refl _, fun _ _ _ => rfl⟩
  | some y =>
    refine wp_append_own w s x T ho base E i0 (.agg #[.int .i64 0, .int .i64 0]) 2 16 htu hi hz0 hz1 hz2 rfl (by decide) v n xs hs hown y m c (flatP M) hx (by rw [flatP_len, hl]) ?_ (flatP_cell M) (by unfold maxLen; omega) (by omega) hbase ?_
    · intro j u hu
      by_cases h0 : m = 0
      · have : M = [] := List.eq_nil_of_length_eq_zero (by omega)
        subst this
        cases hu
      · exact pls_cells hit (by omega) j u hu
    · intro v' w' h2 h3 _
      have hform : ∃ a' c', v' = .slice a' (n + m) c' := by
        rcases h2.2 with ⟨rfl, e⟩ | ⟨g, cap, cur, rfl, _⟩
        · exact ⟨none, 0, by rw [e]⟩
        · exact ⟨_, cap, rfl⟩
      obtain ⟨a', c', rfl⟩ := hform
      exact hK a' c' w' h2 h3
theorem step_pairs (T E : TypeId) (htu : Try.prog.underlying T = some (.slice E)) (hinfo : (Try.prog.info? E).map (fun i => (i.zero, i.size, i.bytes)) = some (some (.agg #[.int .i64 0, .int .i64 0]), 2, 16))
    {ops : Array Oper} {o : Oper} {a : Act} {w : World} {K : Act → World → Prop} {Q : Exit → Act → World → Prop} {F : Prop} (hg : o.guard = none) (s x : Operand) (ho : o.op = Op.call { callee := Callee.builtin Builtin.append, args := #[s, x], argTypes := #[T, T] })
    (base : Nat) (v : Value) (n : Nat) (xs : List Value) (hs : a.eval s = v) (hown : w.ownsRow base E 2 v n xs)
    (al : Option Addr) (m c : Nat) (M : List (Int × Int)) (hx : a.eval x = .slice al m c) (hit : PlS w al m c M) (hal : al = none → m = 0 ∧ c = 0) (hn : n + m ≤ 1000000) {N : Nat} (hN : n + m = N) (hbase : base ≤ w.heap.size)
    (hK : ∀ a' c' w', w'.ownsRow base E 2 (.slice a' N c') N (xs ++ flatP M) → w.grownBy w' v.ownBlock → K (a.put o.dst (.slice a' N c')) w') :
    if Region.wanted o (yielded ops a.tmps) = true then Oper.wp Try.prog o a w K Q else F := by
  have hw : Region.wanted o (yielded ops a.tmps) = true := by simp [Region.wanted, hg]
  rw [if_pos hw]
  exact wp_pairs T E htu hinfo s x ho base v n xs hs hown al m c M hx hit hal hn hN hbase hK
/-- a copy of its own: 'append([][2]int{}, x...)'; nothing that was there turns -/
theorem step_fresh (T E : TypeId) (htu : Try.prog.underlying T = some (.slice E)) (hinfo : (Try.prog.info? E).map (fun i => (i.zero, i.size, i.bytes)) = some (some (.agg #[.int .i64 0, .int .i64 0]), 2, 16))
    {ops : Array Oper} {o : Oper} {a : Act} {w : World} {K : Act → World → Prop} {Q : Exit → Act → World → Prop} {F : Prop} (hg : o.guard = none) (s x : Operand) (ho : o.op = Op.call { callee := Callee.builtin Builtin.append, args := #[s, x], argTypes := #[T, T] })
    (base B : Nat) (hs : a.eval s = .slice (some ⟨B, 0, none⟩) 0 0) (hown : w.ownsRow base E 2 (.slice (some ⟨B, 0, none⟩) 0 0) 0 (flatP []))
    (al : Option Addr) (m c : Nat) (M : List (Int × Int)) (hx : a.eval x = .slice al m c) (hit : PlS w al m c M) (hal : al = none → m = 0 ∧ c = 0) (hn : m ≤ 1000000) (hbase : base ≤ w.heap.size)
    (hK : ∀ a' c' w', w'.ownsRow base E 2 (.slice a' m c') m (flatP M) → Gr w w' → K (a.put o.dst (.slice a' m c')) w') :
    if Region.wanted o (yielded ops a.tmps) = true then Oper.wp Try.prog o a w K Q else F := by
  obtain ⟨i0, hi, hz0, hz1, hz2⟩ := info_parts hinfo
  have hl := hit.1
  by_cases h0 : m = 0
  · subst h0
    obtain rfl : M = [] := List.eq_nil_of_length_eq_zero hl
    have hw : Region.wanted o (yielded ops a.tmps) = true := by simp [Region.wanted, hg]
    rw [if_pos hw]
    have hrun : ∀ ty, (Builtin.append_ #[T, T] ty #[.slice (some ⟨B, 0, none⟩) 0 0, .slice al 0 c]).run Try.prog w = .ok (.slice (some ⟨B, 0, none⟩) 0 0) w := by
      intro ty
      cases al with
      | none => simp [Builtin.append_, run_underlying (P := Try.prog) htu, sizeOf, typeInfo, hi, Builtin.lenOf, Builtin.firstCells, storeCells]
      | some y => simp [Builtin.append_, run_underlying (P := Try.prog) htu, sizeOf, typeInfo, hi, Builtin.lenOf, Builtin.firstCells, storeCells, loadCells, loadCellsFrom]
    unfold Oper.wp
    simp [execOp, ho, resolve, invoke, builtin, hs, hx, hrun, Result.andThen]
    exact hK _ _ w hown (Gr.refl w)
  · cases al with
    | none => exact absurd (hal rfl).1 h0
    | some ay =>
      refine step_append_grows hg s x T ho E i0 (.agg #[.int .i64 0, .int .i64 0]) 2 16 htu hi hz0 hz1 hz2 rfl (by decide) (some ⟨B, 0, none⟩) 0 0 [] hs (fun e => by cases e) rfl (fun b _ j u hu => by cases hu) ay m c (flatP M) hx (by rw [flatP_len, hl]) (pls_cells hit (by omega)) (flatP_cell M) (by omega) (by unfold maxLen; omega) (by omega) ?_
      intro v' w' hown hgrow
      rw [Nat.zero_add, List.nil_append] at hown
      obtain ⟨g, cc, rfl, -, -⟩ := World.ownsRow.form hown (by omega)
      exact hK _ _ _ (ownP_base hown hbase) (Gr.grown (Gr.refl w) hgrow (fun q e => by cases e))
theorem pairs_empty (w : World) (t : TypeId) : (w.alloc (.cells #[] t)).ownsRow w.heap.size t 2 (.slice (some ⟨w.heap.size, 0, none⟩) 0 0) 0 (flatP []) :=
  ⟨rfl, .inr ⟨_, 0, #[], rfl, Nat.le_refl _, Go.Deep.blk_alloc_new _ _, Nat.le_refl _, Nat.zero_le _, rfl, rfl⟩⟩
theorem pairs_one (w : World) (x : Int × Int) (t : TypeId) : PlS (w.alloc (.cells #[.int .i64 x.1, .int .i64 x.2] t)) (some ⟨w.heap.size, 0, none⟩) 1 1 [x] := by
  refine ⟨rfl, Nat.le_refl _, by unfold maxLen; omega, .inr ⟨_, 0, rfl, by simp, fun i hi => ?_⟩⟩
  obtain rfl : i = 0 := by omega
  constructor <;> simp [go_sem, elP]
theorem pairs_emp {u : World} {B base : Nat} {t : TypeId} (v : World) (hB : B = v.heap.size) (hb : base ≤ B) (g : Gr (v.alloc (.cells #[] t)) u) : u.ownsRow base t 2 (.slice (some ⟨B, 0, none⟩) 0 0) 0 (flatP []) := by
  subst hB
  exact ownP_base (own_grP (pairs_empty v t) g) hb
theorem pairs_sng {u : World} {B : Nat} {t : TypeId} (v : World) (x : Int × Int) (hB : B = v.heap.size) (g : Gr (v.alloc (.cells #[.int .i64 x.1, .int .i64 x.2] t)) u) : PlS u (some ⟨B, 0, none⟩) 1 1 [x] := by
  subst hB
  exact (pairs_one v x t).gr g
theorem PlS.zip (w : World) (a : Option Addr) {n c : Nat} {L : List (Int × Int)} (hn : n = 0) (hl : L.length = 0) (hc : c ≤ maxLen) : PlS w a n c L := ⟨by omega, by omega, hc, .inl hn⟩
theorem tri_set12 {w : World} {b : Nat} {t : TypeId} {x y z : Value} (y' z' : Value) (h : w.rowIs b t 3 (tri x y z)) : ((w.setCell ⟨b, 1, none⟩ y').setCell ⟨b, 2, none⟩ z').rowIs b t 3 (tri x y' z') :=
  World.rowIs.congr ((h.set 1 y').set 2 z') (fun i hi => by rcases (by omega : i = 0 ∨ i = 1 ∨ i = 2) with rfl | rfl | rfl <;> simp [tri])
theorem gr_set12 {a w : World} {b : Nat} (x y : Value) (h : Gr a w) (hb : a.heap.size ≤ b) : Gr a ((w.setCell ⟨b, 1, none⟩ x).setCell ⟨b, 2, none⟩ y) :=
  Gr.set (p := ⟨b, 2, none⟩) (Gr.set (p := ⟨b, 1, none⟩) h hb x) hb y
theorem row3 {w : World} {b : Nat} {t : TypeId} {x y z : Value} (h : w.rowIs b t 3 (tri x y z)) : w.cell? ⟨b, 0, none⟩ = some x ∧ w.cell? ⟨b, 1, none⟩ = some y ∧ w.cell? ⟨b, 2, none⟩ = some z ∧ w.frozen? ⟨b, 0, none⟩ = false ∧ w.frozen? ⟨b, 1, none⟩ = false ∧ w.frozen? ⟨b, 2, none⟩ = false :=
  ⟨h.cell (i := 0) (by omega), h.cell (i := 1) (by omega), h.cell (i := 2) (by omega), h.frozen 0, h.frozen 1, h.frozen 2⟩
end Go.Proofs.Ytnkjehbbcjnfcaa
