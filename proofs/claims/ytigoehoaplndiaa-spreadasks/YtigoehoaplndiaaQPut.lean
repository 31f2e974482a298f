/- What Put, of a ring in memory, does: the item waits behind all; or nothing turns. -/
import Derived.Test.YtigoehoaplndiaaQNew
import Derived.Laws.IdiomStrings
namespace Go.Proofs.Ytigoehoaplndiaa
open Go.RowKit
set_option maxRecDepth 20000

theorem Kp.gr_of {w w' : World} {row : Option Nat} (h : w.grownBy w' row) : Kp (fun k => row = some k) w w' := ⟨h.os, h.tape, h.output, h.size, fun k hk hs => h.block k hk (fun e => hs e.symm)⟩
/-- 'append' of one number to a bucket, as a step of a region that draws -/
theorem step_bu {ops : Array Oper} {o : Oper} {a : Act} {w : World} {K : Act → World → Prop} {Q : Exit → Act → World → Prop} {E : Prop}
    (hg : o.guard = none) (s x : Operand) (ho : o.op = Op.call { callee := Callee.builtin Builtin.append, args := #[s, x], argTypes := #[25, 25] })
    {g : Option Nat} {v : Value} {l : List Int} (hb : Bu w g v l) (hl : l.length ≤ 1000000) (hs : a.eval s = v) (b : Nat) (n : Int) (hx : a.eval x = .slice (some ⟨b, 0, none⟩) 1 1) (hc : w.cell? ⟨b, 0, none⟩ = some (.int .i64 n))
    (hK : ∀ a1 c1 w' g', Bu w' g' (.slice a1 (l.length + 1) c1) (l ++ [n]) → (g' = g ∨ ∃ b', g' = some b' ∧ w.heap.size ≤ b') → Kp (fun k => g = some k) w w' → K (a.put o.dst (.slice a1 (l.length + 1) c1)) w') :
    if Region.wanted o (yielded ops a.tmps) = true then Oper.wp Try.prog o a w K Q else E := by
  obtain ⟨i0, hi, hz0, hz1, hz2⟩ := info_parts info_int
  have hc1 : ∀ j u, ([Value.int .i64 n] : List Value)[j]? = some u → w.cell? ((⟨b, 0, none⟩ : Addr).add j) = some u := by
    intro j u hu
    cases j with
    | zero => simp only [List.getElem?_cons_zero, Option.some.injEq] at hu; subst hu; simpa [Addr.add] using hc
    | succ j => simp at hu
  have h1c : ∀ u ∈ ([Value.int .i64 n] : List Value), u.oneCell' = true := by simp [Value.oneCell']
  have grows : ∀ (ao : Option Addr) (cap : Nat), v = .slice ao l.length cap → (ao = none → l.length = 0 ∧ cap = 0) → cap < l.length + 1 → (∀ b, ao = some b → ∀ j u, (l.map fun z => Value.int .i64 z)[j]? = some u → w.cell? (b.add j) = some u) →
      if Region.wanted o (yielded ops a.tmps) = true then Oper.wp Try.prog o a w K Q else E := by
    intro ao cap hv hn hcap holds
    refine step_append_grows hg s x 25 ho 3 i0 (.int .i64 0) 1 8 Try.underlying25 hi hz0 hz1 hz2 rfl (by decide) ao l.length cap (l.map fun z => Value.int .i64 z) (hs.trans hv) hn (by simp) holds ⟨b, 0, none⟩ 1 1 [.int .i64 n] hx rfl hc1 h1c hcap (by unfold maxLen; omega) (by omega) ?_
    intro v' w' hown hgr
    rcases hown.2 with ⟨_, h0⟩ | ⟨g', cap', cur, rfl, hbase, hg', hn', _, hsz, ht⟩
    · omega
    · refine hK _ _ w' (some g') (.inr ⟨g', 0, cap', cur, rfl, ?_, hg', by omega, ?_, ?_⟩) (.inr ⟨g', rfl, hbase⟩) ((Kp.gr_of hgr).mono (fun k e => by cases e))
      · simp
      · simpa using hn'
      · intro i y hy
        have ht : cur.toList.take (l.length + 1) = (l ++ [n]).map fun z => Value.int .i64 z := by simpa using ht
        have hlt : i < l.length + 1 := by have := (List.getElem?_eq_some_iff.1 hy).1; simpa using this
        have e : (cur.toList.take (l.length + 1))[i]? = some (.int .i64 y) := by rw [ht, List.getElem?_map, hy]; rfl
        rw [List.getElem?_take, if_pos hlt] at e
        simpa using e
  rcases hb with ⟨hgn, hv, hln⟩ | ⟨b0, off, c, cur, rfl, hv, hblk, hoc, hlc, hcur⟩
  · subst hln
    exact grows none 0 hv (fun _ => ⟨rfl, rfl⟩) (by simp) (fun b hb => by cases hb)
  · have hcell : ∀ j, w.cell? ⟨b0, j, none⟩ = cur[j]? := fun j => cell_of_row w b0 j cur _ _ hblk
    by_cases hroom : l.length + 1 ≤ c
    · refine step_append_room hg s x 25 ho 3 i0 1 Try.underlying25 hi hz1 b0 off l.length c (hs.trans hv) ⟨b, 0, none⟩ 1 1 [.int .i64 n] hx rfl hc1 h1c hroom ?_ ?_
      · intro j hj
        have hj : j = 0 := by simp only [List.length_singleton] at hj; omega
        subst hj
        refine ⟨?_, ?_⟩
        · rw [hcell, Array.getElem?_eq_getElem (by omega)]
          rfl
        · simp [World.frozen?, hblk]
      · have e1 : w.setCells b0 (off + l.length * 1) [.int .i64 n] = w.setCell ⟨b0, off + l.length, none⟩ (.int .i64 n) := by simp [World.setCells]
        rw [e1]
        refine hK _ _ _ (some b0) (.inr ⟨b0, off, c, cur.setIfInBounds (off + l.length) (.int .i64 n), rfl, ?_, ?_, ?_, ?_, ?_⟩) (.inl rfl) (Kp.set (S := fun k => some b0 = some k) (Kp.refl _ w) (p := ⟨b0, off + l.length, none⟩) (.inl rfl) _)
        · simp
        · simp [World.setCell, Array.getElem?_modify, hblk]
        · simpa using hoc
        · simpa using hroom
        · intro i y hy
          rw [Array.getElem?_setIfInBounds]
          by_cases e : i = l.length
          · subst e
            rw [List.getElem?_append_right (Nat.le_refl _)] at hy
            simp only [Nat.sub_self, List.getElem?_cons_zero, Option.some.injEq] at hy
            subst hy
            simp; omega
          · have hlt : i < l.length + 1 := by have := (List.getElem?_eq_some_iff.1 hy).1; simpa using this
            rw [List.getElem?_append_left (by omega)] at hy
            rw [if_neg (by omega)]
            exact hcur i y hy
    · refine grows _ c hv (fun h => by cases h) (by omega) ?_
      intro b' hb' j u hu
      cases hb'
      rw [List.getElem?_map] at hu
      cases hj : l[j]? with
      | none => rw [hj] at hu; cases hu
      | some y =>
        rw [hj] at hu
        simp only [Option.map_some, Option.some.injEq] at hu
        subst hu
        have := hcur j y hj
        rw [← hcell] at this
        by_cases hj0 : j = 0
        · subst hj0
          simpa [Addr.add] using this
        · simpa [Addr.add, hj0] using this

theorem Bu.gr {w w' : World} {g : Option Nat} {v : Value} {l : List Int} (h : Bu w g v l) (k : Gr w w') : Bu w' g v l := h.of_block fun b hb => Below.block k b (by subst hb; exact h.lt)
/-- what a ring's box holds behind a store into its cell 2 + i and a new length -/
theorem rv_put (a n n' : Int) (vs : Nat → Value) (i : Nat) (v : Value) : ∀ j, j < 258 → (if j = 1 then Value.int .i64 n' else if j = 2 + i then v else rv a n vs j) = rv a n' (fun t => if t = i then v else vs t) j := by
  intro j _
  unfold rv
  dsimp only
  rcases (by omega : j = 0 ∨ j = 1 ∨ j = 2 + i ∨ (2 ≤ j ∧ j ≠ 2 + i)) with rfl | rfl | rfl | ⟨h, e⟩
  · rw [if_neg (by omega), if_neg (by omega), if_pos rfl, if_pos rfl]
  · rw [if_pos rfl, if_neg (by omega), if_pos rfl]
  · rw [if_neg (by omega), if_pos rfl, if_neg (by omega), if_neg (by omega), if_pos (by omega)]
  · rw [if_neg (by omega), if_neg e, if_neg (by omega), if_neg (by omega), if_neg (by omega), if_neg (by omega), if_neg (by omega)]
theorem rv_at (a n : Int) (vs : Nat → Value) (i : Nat) : rv a n vs (2 + i) = vs i := by
  unfold rv
  rw [if_neg (by omega), if_neg (by omega)]
  congr 1
  omega
theorem cell_new1 (w : World) (v : Value) (t : TypeId) : (w.alloc (.cells #[v] t)).cell? ⟨w.heap.size, 0, none⟩ = some v := by
  have := (World.rowIs_alloc w #[v] t (fun _ => v) (fun i hi => by have hi : i < 1 := hi; obtain rfl : i = 0 := (by omega); rfl)).cell (i := 0) (by show 0 < 1; omega)
  exact this
theorem Rg.put {w u w1 : World} {p : Nat} {FP : Nat → Prop} {a : Int} {L : List (Int × Int)} (h : Rg w p FP a L) {gs : Nat → Option Nat} {vs : Nat → Value}
    (h1 : w.rowIs p 76 258 (rv a L.length vs)) (h2 : ∀ i, i < 256 → Bu w (gs i) (vs i) (its L i)) (h3 : ∀ i b, i < 256 → gs i = some b → FP b ∧ b ≠ p) (h4 : ∀ i j b, i < 256 → j < 256 → gs i = some b → gs j = some b → i = j)
    (hu : Gr w u) {i : Nat} {k x : Int} (hi : k % 256 = (i : Int)) (hk1 : a ≤ k) (hk2 : k ≤ a + 255) {v' : Value} {g' : Option Nat} (hb : Bu w1 g' v' (its L i ++ [x])) (hg : g' = gs i ∨ ∃ b', g' = some b' ∧ u.heap.size ≤ b') (hkp : Kp (fun k => gs i = some k) u w1) {n' : Int} (hn : n' = L.length + 1) :
    (∃ FP', Rg ((w1.setCell ⟨p, 2 + i, none⟩ v').setCell ⟨p, 1, none⟩ (.int .i64 n')) p FP' a (L ++ [(k, x)]) ∧ ∀ b, FP' b → FP b ∨ w.heap.size ≤ b) ∧ Kp FP w ((w1.setCell ⟨p, 2 + i, none⟩ v').setCell ⟨p, 1, none⟩ (.int .i64 n')) := by
  have hi2 : i < 256 := by omega
  have hus : w.heap.size ≤ u.heap.size := Below.size hu
  have hsz : ((w1.setCell ⟨p, 2 + i, none⟩ v').setCell ⟨p, 1, none⟩ (.int .i64 n')).heap.size = w1.heap.size := by simp [World.setCell]
  have hblk : ∀ b, b ≠ p → ((w1.setCell ⟨p, 2 + i, none⟩ v').setCell ⟨p, 1, none⟩ (.int .i64 n')).heap[b]? = w1.heap[b]? := fun b hb => (Below.heap_setCell _ _ _ b hb).trans (Below.heap_setCell _ _ _ b hb)
  have hp : p < w.heap.size := h1.lt
  have hpg : ¬ gs i = some p := fun e => (h3 i p hi2 e).2 rfl
  have hrow1 := hkp.row (row_gr h1 hu) hpg
  have hg1 : ∀ b, g' = some b → b < w1.heap.size := fun b e => by subst e; exact hb.lt
  have hgp : ∀ b, g' = some b → b ≠ p := by
    intro b e
    rcases hg with rfl | ⟨b', rfl, hb'⟩
    · exact (h3 i b hi2 e).2
    · cases e; omega
  refine ⟨⟨fun b => (FP b ∨ w.heap.size ≤ b) ∧ b < w1.heap.size, ⟨h.lo, h.near.put hk1 hk2, ⟨.inl h.fp, hrow1.lt⟩, ?_, fun t => if t = i then g' else gs t, fun t => if t = i then v' else vs t, ?_, ?_, ?_, ?_⟩, fun b hb => hb.1⟩, ?_⟩
  · intro b hb
    rw [hsz]
    exact hb.2
  · refine World.rowIs.congr ((hrow1.set (2 + i) v').set 1 (.int .i64 n')) ?_
    intro j hj
    have := rv_put a L.length n' vs i v' j hj
    simp only [List.length_append, List.length_singleton]
    rw [this, hn]
    rfl
  · intro t ht
    rw [its_put, hi]
    by_cases e : t = i
    · subst e
      simp only [if_true]
      exact hb.of_block fun b e => hblk b (hgp b e)
    · dsimp only
      rw [if_neg e, if_neg e, if_neg (by omega)]
      refine ((h2 t ht).gr hu).of_block fun b hb => ?_
      rw [hblk b (h3 t b ht hb).2]
      exact hkp.block b (Nat.lt_of_lt_of_le (h.lt b (h3 t b ht hb).1) hus) (fun e2 => e (h4 t i b ht hi2 hb e2))
  · intro t b ht hb
    dsimp only at hb
    by_cases e : t = i
    · rw [if_pos e] at hb
      refine ⟨⟨?_, hg1 b hb⟩, hgp b hb⟩
      rcases hg with rfl | ⟨b', rfl, hb'⟩
      · exact .inl (h3 i b hi2 hb).1
      · cases hb; exact .inr (by omega)
    · rw [if_neg e] at hb
      have := (h3 t b ht hb)
      exact ⟨⟨.inl this.1, Nat.lt_of_lt_of_le (h.lt b this.1) (Nat.le_trans hus hkp.size)⟩, this.2⟩
  · intro t s b ht hs hb hc
    dsimp only at hb hc
    have key : ∀ q, q < 256 → q ≠ i → gs q = some b → g' = some b → False := by
      intro q hq hqi e1 e2
      rcases hg with rfl | ⟨b', rfl, hb'⟩
      · exact hqi (h4 q i b hq hi2 e1 e2)
      · cases e2
        have := h.lt b (h3 q b hq e1).1
        omega
    by_cases e : t = i
    · by_cases f : s = i
      · omega
      · rw [if_pos e] at hb
        rw [if_neg f] at hc
        exact (key s hs f hc hb).elim
    · by_cases f : s = i
      · rw [if_neg e] at hb
        rw [if_pos f] at hc
        exact (key t ht e hb hc).elim
      · rw [if_neg e] at hb
        rw [if_neg f] at hc
        exact h4 t s b ht hs hb hc
  · exact Kp.set (Kp.set (hu.kpb (hkp.mono fun b hb => (h3 i b hi2 hb).1)) (p := ⟨p, 2 + i, none⟩) (.inl h.fp) _) (p := ⟨p, 1, none⟩) (.inl h.fp) _


set_option maxHeartbeats 2000000 in
theorem qput_yes {w : World} {p : Nat} {FP : Nat → Prop} {a : Int} {L : List (Int × Int)} (h : Rg w p FP a L) (k x : Int) (hk1 : a ≤ k) (hk2 : k ≤ a + 255) (hL : L.length ≤ 1000000) (ha : a ≤ 4611686018427387904) :
    Calls Try.prog 55 #[.pointer (some ⟨p, 0, none⟩), .int .i64 k, .int .i64 x] w fun e w' => e = .returned (.bool true) ∧ (∃ FP', Rg w' p FP' a (L ++ [(k, x)]) ∧ ∀ b, FP' b → FP b ∨ w.heap.size ≤ b) ∧ Kp FP w w' := by
  obtain ⟨gs, vs, h1, h2, h3, h4⟩ := h.mem
  have hlo := h.lo
  obtain ⟨i, hi⟩ : ∃ i : Nat, k % 256 = (i : Int) := ⟨(k % 256).toNat, by omega⟩
  have hi2 : i < 256 := by omega
  have H1 := hide h1
  have HI := hide hi
  have HLO := hide hlo
  have c1 : w.cell? ⟨p, 1, none⟩ = some (.int .i64 (L.length : Int)) := h1.cell (i := 1) (by omega)
  have ci : w.cell? ⟨p, 2 + i, none⟩ = some (vs i) := by rw [h1.cell (i := 2 + i) (by omega), rv_at]
  have hi3 : (i : Int) < 256 := by omega
  have HB := hide (h2 i hi2)
  have hln := Nat.le_trans (its_len L i) hL
  have hpg : ¬ gs i = some p := fun e => (h3 i p hi2 e).2 rfl
  have hp := h1.lt
  have H2 := hide h2
  have H3 := hide h3
  have H4 := hide h4
  clear h1 hi h2 h3 h4
  have ht : (decide (a ≤ k) && decide (k - a < 256)) = true := by simp; omega
  go_enter Try.func55, Try.ntmps55
  go_wp2_with (first | (go_at_call 77; refine (takes_any h _ (by omega)).mono ?_; rintro e w' ⟨rfl, rfl⟩; rw [ht]) | (go_at_call 59; refine (bucket_any _ _ _ (by omega) (by omega) HI.out).mono ?_; rintro e w' ⟨rfl, rfl⟩))
  go_region_law (refine step_bu rfl (.tmp 25) (.tmp 27) rfl (HB.out.gr (by repeat (first | exact Gr.refl _ | assumption | exact Dr.gr (by assumption) | refine Gr.alloc ?_ _ | refine Gr.drewN ?_ _ | refine Gr.drew ?_ | refine Gr.trans ?_ (by assumption) | refine Gr.trans ?_ (Dr.gr (by assumption))))) hln (by simp [Act.eval]) w'.heap.size x (by simp [Act.eval]) (cell_new1 w'.drew _ _) ?_; intro a1 n1 w1 g1 hbu hgg hkp; have d1 : w1.cell? ⟨p, 1, none⟩ = some (.int .i64 (L.length : Int)) := (hkp.row (row_gr H1.out (by repeat (first | exact Gr.refl _ | assumption | exact Dr.gr (by assumption) | refine Gr.alloc ?_ _ | refine Gr.drewN ?_ _ | refine Gr.drew ?_ | refine Gr.trans ?_ (by assumption) | refine Gr.trans ?_ (Dr.gr (by assumption))))) hpg).cell (i := 1) (by omega); have di := (hkp.row (row_gr H1.out (by repeat (first | exact Gr.refl _ | assumption | exact Dr.gr (by assumption) | refine Gr.alloc ?_ _ | refine Gr.drewN ?_ _ | refine Gr.drew ?_ | refine Gr.trans ?_ (by assumption) | refine Gr.trans ?_ (Dr.gr (by assumption))))) hpg).cell (i := 2 + i) (by omega); have df := fun j => (hkp.row (row_gr H1.out (by repeat (first | exact Gr.refl _ | assumption | exact Dr.gr (by assumption) | refine Gr.alloc ?_ _ | refine Gr.drewN ?_ _ | refine Gr.drew ?_ | refine Gr.trans ?_ (by assumption) | refine Gr.trans ?_ (Dr.gr (by assumption))))) hpg).frozen j)
  all_goals (go_wp2; go_ret; exact ⟨rfl, h.put H1.out H2.out H3.out H4.out (by repeat (first | exact Gr.refl _ | assumption | exact Dr.gr (by assumption) | refine Gr.alloc ?_ _ | refine Gr.drewN ?_ _ | refine Gr.drew ?_ | refine Gr.trans ?_ (by assumption) | refine Gr.trans ?_ (Dr.gr (by assumption)))) HI.out hk1 hk2 hbu hgg hkp rfl⟩)
theorem qput_no {w : World} {p : Nat} {FP : Nat → Prop} {a : Int} {L : List (Int × Int)} (h : Rg w p FP a L) (k x : Int) (hk : k < a ∨ a + 255 < k) (hb : k ≤ 9223372036854775807) :
    Calls Try.prog 55 #[.pointer (some ⟨p, 0, none⟩), .int .i64 k, .int .i64 x] w fun e w' => e = .returned (.bool false) ∧ w' = w := by
  have ht : (decide (a ≤ k) && decide (k - a < 256)) = false := by simp; omega
  clear hk
  go_enter Try.func55, Try.ntmps55
  go_wp2_with (go_at_call 77; refine (takes_any h _ (by omega)).mono ?_; rintro e w' ⟨rfl, rfl⟩; rw [ht])
  go_ret
  exact ⟨rfl, rfl⟩
theorem qput_nil (k x : Int) (w : World) : Calls Try.prog 55 #[.pointer none, .int .i64 k, .int .i64 x] w fun e w' => e = .returned (.bool false) ∧ w' = w := by
  go_enter Try.func55, Try.ntmps55
  go_wp2
  go_ret
  exact ⟨rfl, rfl⟩

theorem qjump_yes {w : World} {p : Nat} {FP : Nat → Prop} {a : Int} (h : Rg w p FP a []) (k : Int) (h1 : a ≤ k) (h2 : k ≤ 1099511627776) :
    Calls Try.prog 54 #[.pointer (some ⟨p, 0, none⟩), .int .i64 k] w fun e w' => e = .returned (.bool true) ∧ Rg w' p FP k [] ∧ Kp FP w w' := by
  obtain ⟨c0, c1, cf⟩ := h.cells
  have hlo := h.lo
  have c1 : w.cell? ⟨p, 1, none⟩ = some (.int .i64 0) := c1
  go_enter Try.func54, Try.ntmps54
  go_wp2
  go_ret
  exact ⟨rfl, h.jump (by omega), Kp.set (Kp.refl FP w) (p := ⟨p, 0, none⟩) (.inl h.fp) _⟩
theorem qjump_full {w : World} {p : Nat} {FP : Nat → Prop} {a : Int} {L : List (Int × Int)} (h : Rg w p FP a L) (k : Int) (h1 : 0 < L.length) :
    Calls Try.prog 54 #[.pointer (some ⟨p, 0, none⟩), .int .i64 k] w fun e w' => e = .returned (.bool false) ∧ w' = w := by
  obtain ⟨c0, c1, cf⟩ := h.cells
  have h1 : (0 : Int) < (L.length : Int) := by omega
  go_enter Try.func54, Try.ntmps54
  go_wp2
  go_ret
  exact ⟨rfl, rfl⟩
theorem qjump_no {w : World} {p : Nat} {FP : Nat → Prop} {a : Int} (h : Rg w p FP a []) (k : Int) (h1 : k < a ∨ 1099511627776 < k) :
    Calls Try.prog 54 #[.pointer (some ⟨p, 0, none⟩), .int .i64 k] w fun e w' => e = .returned (.bool false) ∧ w' = w := by
  obtain ⟨c0, c1, cf⟩ := h.cells
  have c1 : w.cell? ⟨p, 1, none⟩ = some (.int .i64 0) := c1
  by_cases h0 : k < a
  · clear h1
    go_enter Try.func54, Try.ntmps54
    go_wp2
    go_ret
    exact ⟨rfl, rfl⟩
  · have h2 : 1099511627776 < k := by omega
    clear h1
    go_enter Try.func54, Try.ntmps54
    go_wp2
    go_ret
    exact ⟨rfl, rfl⟩
theorem qjump_nil (k : Int) (w : World) : Calls Try.prog 54 #[.pointer none, .int .i64 k] w fun e w' => e = .returned (.bool false) ∧ w' = w := by
  go_enter Try.func54, Try.ntmps54
  go_wp2
  go_ret
  exact ⟨rfl, rfl⟩
end Go.Proofs.Ytigoehoaplndiaa
