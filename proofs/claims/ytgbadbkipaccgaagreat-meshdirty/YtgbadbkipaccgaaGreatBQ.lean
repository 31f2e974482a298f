/- What Pop, of a ring in memory, does: the first of the least key goes; or, of none, nothing turns. -/
import Derived.Test.YtgbadbkipaccgaaGreatBW
import Derived.Test.YtgbadbkipaccgaaGreatBT
import Derived.Deep.RegionLawGrows
import Derived.Laws.IdiomStrings
import Derived.Deep.QuietTactic
namespace Go.Proofs.YtgbadbkipaccgaaGreat
open Go.RowKit
set_option maxRecDepth 20000

/-- the one at m, item x under key k, is the first of the least key -/
def FirstMin (L : List (Int × Int)) (m : Nat) (k x : Int) : Prop := L[m]? = some (k, x) ∧ (∀ e ∈ L, k ≤ e.1) ∧ ∀ j e, j < m → L[j]? = some e → k < e.1
theorem FirstMin.mem {L : List (Int × Int)} {m : Nat} {k x : Int} (h : FirstMin L m k x) : (k, x) ∈ L := List.mem_of_getElem? h.1
theorem FirstMin.lt {L : List (Int × Int)} {m : Nat} {k x : Int} (h : FirstMin L m k x) : m < L.length := (List.getElem?_eq_some_iff.1 h.1).1
theorem FirstMin.uniq {L : List (Int × Int)} {m n : Nat} {k x l y : Int} (h : FirstMin L m k x) (g : FirstMin L n l y) : m = n ∧ k = l ∧ x = y := by
  have a := h.2.1 _ g.mem
  have b := g.2.1 _ h.mem
  have e : m = n := by
    rcases Nat.lt_trichotomy m n with c | c | c
    · have := g.2.2 _ _ c h.1
      simp only at a b this; omega
    · exact c
    · have := h.2.2 _ _ c g.1
      simp only at a b this; omega
  subst e
  have q := h.1.symm.trans g.1
  simp only [Option.some.injEq, Prod.mk.injEq] at q
  exact ⟨rfl, q.1, q.2⟩
theorem exists_first : ∀ L : List (Int × Int), L ≠ [] → ∃ m k x, FirstMin L m k x
  | [], h => absurd rfl h
  | [e], _ => ⟨0, e.1, e.2, rfl, by simp, fun j _ hj => absurd hj (Nat.not_lt_zero _)⟩
  | e :: f :: L, _ => by
    obtain ⟨m, k, x, h⟩ := exists_first (f :: L) (by simp)
    by_cases c : e.1 ≤ k
    · refine ⟨0, e.1, e.2, rfl, ?_, fun j _ hj => absurd hj (Nat.not_lt_zero _)⟩
      intro g hg
      rcases List.mem_cons.1 hg with rfl | hg
      · exact Int.le_refl _
      · exact Int.le_trans c (h.2.1 g hg)
    · refine ⟨m + 1, k, x, h.1, ?_, ?_⟩
      · intro g hg
        rcases List.mem_cons.1 hg with rfl | hg
        · omega
        · exact h.2.1 g hg
      · intro j g hj hg
        cases j with
        | zero => simp only [List.getElem?_cons_zero, Option.some.injEq] at hg; subst hg; omega
        | succ j => exact h.2.2 j g (by omega) hg

/-- what waits in bucket i -/
def its (L : List (Int × Int)) (i : Nat) : List Int := (L.filter fun e => decide (e.1 % 256 = (i : Int))).map Prod.snd
theorem its_nil (i : Nat) : its [] i = [] := rfl
theorem its_app (L M : List (Int × Int)) (i : Nat) : its (L ++ M) i = its L i ++ its M i := by simp [its]
theorem its_put (L : List (Int × Int)) (k x : Int) (i : Nat) : its (L ++ [(k, x)]) i = if k % 256 = (i : Int) then its L i ++ [x] else its L i := by
  rw [its_app]
  by_cases h : k % 256 = (i : Int) <;> simp [its, h]
theorem its_empty (L : List (Int × Int)) (i : Nat) : its L i = [] ↔ ∀ e ∈ L, e.1 % 256 ≠ (i : Int) := by simp [its]
theorem its_len (L : List (Int × Int)) (i : Nat) : (its L i).length ≤ L.length := by
  simp only [its, List.length_map]
  exact List.length_filter_le _ _

/-- keys that lie within 256 of each other -/
def Near (a : Int) (L : List (Int × Int)) : Prop := ∀ e ∈ L, a ≤ e.1 ∧ e.1 ≤ a + 255
theorem Near.nil (a : Int) : Near a [] := fun _ h => absurd h (List.not_mem_nil)
theorem Near.put {a : Int} {L : List (Int × Int)} (h : Near a L) {k x : Int} (h1 : a ≤ k) (h2 : k ≤ a + 255) : Near a (L ++ [(k, x)]) := by
  intro e he
  rcases List.mem_append.1 he with he | he
  · exact h e he
  · simp only [List.mem_singleton] at he
    subst he
    exact ⟨h1, h2⟩
theorem erase_split (L : List (Int × Int)) {m : Nat} {e : Int × Int} (h : L[m]? = some e) : L = L.take m ++ e :: L.drop (m + 1) ∧ L.eraseIdx m = L.take m ++ L.drop (m + 1) := by
  obtain ⟨hm, he⟩ := List.getElem?_eq_some_iff.1 h
  refine ⟨?_, List.eraseIdx_eq_take_drop_succ L m⟩
  conv => lhs; rw [← List.take_append_drop m L]
  rw [List.drop_eq_getElem_cons hm, he]
theorem mem_take_idx {L : List (Int × Int)} {m : Nat} {e : Int × Int} (h : e ∈ L.take m) : ∃ j, j < m ∧ L[j]? = some e := by
  obtain ⟨j, hj⟩ := List.mem_iff_getElem?.1 h
  rw [List.getElem?_take] at hj
  by_cases c : j < m
  · rw [if_pos c] at hj; exact ⟨j, c, hj⟩
  · rw [if_neg c] at hj; cases hj
/-- what is taken out of its bucket -/
theorem its_take {a : Int} {L : List (Int × Int)} (hn : Near a L) {m : Nat} {k x : Int} (h : FirstMin L m k x) (i : Nat) :
    its L i = if k % 256 = (i : Int) then x :: its (L.eraseIdx m) i else its (L.eraseIdx m) i := by
  obtain ⟨e1, e2⟩ := erase_split L h.1
  rw [e2]
  conv => lhs; rw [e1]
  rw [its_app, its_app]
  by_cases c : k % 256 = (i : Int)
  · rw [if_pos c]
    have z : its (L.take m) i = [] := by
      rw [its_empty]
      intro e he q
      obtain ⟨j, hj, hg⟩ := mem_take_idx he
      have := h.2.2 j e hj hg
      have r := hn e (List.mem_of_getElem? hg)
      have s := hn _ h.mem
      simp only at s
      omega
    rw [z]
    simp [its, c]
  · rw [if_neg c]
    simp [its, c]
theorem Near.erase {a : Int} {L : List (Int × Int)} (hn : Near a L) {m : Nat} {k x : Int} (h : FirstMin L m k x) : Near k (L.eraseIdx m) := by
  intro e he
  have he := List.mem_of_mem_eraseIdx he
  have r := hn e he
  have s := hn _ h.mem
  simp only at s
  exact ⟨h.2.1 e he, by omega⟩
theorem erase_len {L : List (Int × Int)} {m : Nat} {k x : Int} (h : FirstMin L m k x) : (L.eraseIdx m).length = L.length - 1 := by
  rw [List.length_eraseIdx, if_pos h.lt]
/-- the bucket of a key that is not the least yet is empty; that of the least is not -/
theorem least_empty {a : Int} {L : List (Int × Int)} (hn : Near a L) {m : Nat} {k x : Int} (h : FirstMin L m k x) {j : Int} (h1 : a ≤ j) (h2 : j < k) {i : Nat} (hi : j % 256 = (i : Int)) : its L i = [] := by
  rw [its_empty]
  intro e he q
  have r := hn e he
  have s := hn _ h.mem
  have := h.2.1 e he
  simp only at s
  omega
theorem least_full {a : Int} {L : List (Int × Int)} (hn : Near a L) {m : Nat} {k x : Int} (h : FirstMin L m k x) {i : Nat} (hi : k % 256 = (i : Int)) : 0 < (its L i).length := by
  rw [its_take hn h, if_pos hi]
  simp

/-- v is a slice that holds l; behind it block g alone -/
def Bu (w : World) (g : Option Nat) (v : Value) (l : List Int) : Prop :=
  (g = none ∧ v = .slice none 0 0 ∧ l = []) ∨ ∃ b o c cur, g = some b ∧ v = .slice (some ⟨b, o, none⟩) l.length c ∧ w.heap[b]? = some (.cells cur 3 (0, 0)) ∧ o + c ≤ cur.size ∧ l.length ≤ c ∧ ∀ (i : Nat) (x : Int), l[i]? = some x → cur[o + i]? = some (.int .i64 x)
theorem Bu.of_block {w w' : World} {g : Option Nat} {v : Value} {l : List Int} (h : Bu w g v l) (e : ∀ b, g = some b → w'.heap[b]? = w.heap[b]?) : Bu w' g v l := by
  rcases h with h | ⟨b, o, c, cur, h1, h2, h3, h4⟩
  · exact .inl h
  · exact .inr ⟨b, o, c, cur, h1, h2, (e b h1).trans h3, h4⟩
theorem Bu.lt {w : World} {b : Nat} {v : Value} {l : List Int} (h : Bu w (some b) v l) : b < w.heap.size := by
  rcases h with ⟨h, _⟩ | ⟨b', o, c, cur, h1, h2, h3, h4⟩
  · cases h
  · cases h1
    exact (Array.getElem?_eq_some_iff.1 h3).1
theorem Bu.form {w : World} {g : Option Nat} {v : Value} {l : List Int} (h : Bu w g v l) : ∃ a c, v = .slice a l.length c ∧ (a = none → l = [] ∧ c = 0) ∧ ∀ i x, l[i]? = some x → ∃ b o, a = some ⟨b, o, none⟩ ∧ w.cell? ⟨b, o + i, none⟩ = some (.int .i64 x) := by
  rcases h with ⟨_, rfl, rfl⟩ | ⟨b, o, c, cur, h1, rfl, h3, h4, h5, h6⟩
  · exact ⟨none, 0, rfl, fun _ => ⟨rfl, rfl⟩, fun i x hx => by simp at hx⟩
  · refine ⟨_, c, rfl, fun h => (by cases h), fun i x hx => ⟨b, o, rfl, ?_⟩⟩
    rw [cell_of_row w b (o + i) cur _ _ h3]
    exact h6 i x hx

/-- the cells of a ring's box -/
def rv (a n : Int) (vs : Nat → Value) : Nat → Value := fun j => if j = 0 then .int .i64 a else if j = 1 then .int .i64 n else vs (j - 2)
/-- a ring in memory: its box at p, all that it owns in FP -/
structure Rg (w : World) (p : Nat) (FP : Nat → Prop) (a : Int) (L : List (Int × Int)) : Prop where
  lo : 0 ≤ a
  near : Near a L
  fp : FP p
  lt : ∀ k, FP k → k < w.heap.size
  mem : ∃ (gs : Nat → Option Nat) (vs : Nat → Value), w.rowIs p 136 258 (rv a L.length vs) ∧ (∀ i, i < 256 → Bu w (gs i) (vs i) (its L i)) ∧ (∀ i b, i < 256 → gs i = some b → FP b ∧ b ≠ p) ∧ ∀ i j b, i < 256 → j < 256 → gs i = some b → gs j = some b → i = j
theorem Rg.kp {S : Nat → Prop} {w w' : World} {p : Nat} {FP : Nat → Prop} {a : Int} {L : List (Int × Int)} (h : Rg w p FP a L) (k : Kp S w w') (hs : ∀ b, FP b → ¬ S b) : Rg w' p FP a L := by
  obtain ⟨gs, vs, h1, h2, h3, h4⟩ := h.mem
  exact ⟨h.lo, h.near, h.fp, fun b hb => Nat.lt_of_lt_of_le (h.lt b hb) k.size, gs, vs, k.row h1 (hs p h.fp), fun i hi => (h2 i hi).of_block fun b hb => k.block b (h.lt b (h3 i b hi hb).1) (hs b (h3 i b hi hb).1), h3, h4⟩
theorem Rg.gr {w w' : World} {p : Nat} {FP : Nat → Prop} {a : Int} {L : List (Int × Int)} (h : Rg w p FP a L) (g : Gr w w') : Rg w' p FP a L := h.kp (S := fun _ => False) g.kp (fun _ _ q => q)
theorem Rg.cells {w : World} {p : Nat} {FP : Nat → Prop} {a : Int} {L : List (Int × Int)} (h : Rg w p FP a L) :
    w.cell? ⟨p, 0, none⟩ = some (.int .i64 a) ∧ w.cell? ⟨p, 1, none⟩ = some (.int .i64 (L.length : Int)) ∧ ∀ i, w.frozen? ⟨p, i, none⟩ = false := by
  obtain ⟨gs, vs, h1, h2, h3, h4⟩ := h.mem
  exact ⟨h1.cell (i := 0) (by omega), h1.cell (i := 1) (by omega), fun i => h1.frozen i⟩
/-- a later beginning of one that is empty -/
theorem Rg.jump {w : World} {p : Nat} {FP : Nat → Prop} {a : Int} (h : Rg w p FP a []) {k : Int} (hk : 0 ≤ k) : Rg (w.setCell ⟨p, 0, none⟩ (.int .i64 k)) p FP k [] := by
  obtain ⟨gs, vs, h1, h2, h3, h4⟩ := h.mem
  refine ⟨hk, Near.nil k, h.fp, fun b hb => by simpa [World.setCell] using h.lt b hb, gs, vs, (h1.set 0 _).congr ?_, fun i hi => (h2 i hi).of_block fun b hb => Below.heap_setCell w _ _ b (h3 i b hi hb).2, h3, h4⟩
  intro j hj
  by_cases e : j = 0 <;> simp [rv, e]

/-- the cells of a ring that nothing was laid into -/
def zcR : Array Value := #[.int .i64 0, .int .i64 0] ++ Array.replicate 256 (.slice none 0 0)
theorem zero_run (w : World) : Sem.run Tryz.prog (zeroValue 136) w = .ok (.agg zcR) w := by kernel_rfl
theorem zcR_size : zcR.size = 258 := by simp [zcR]
theorem zcR_get (i : Nat) (hi : i < 258) : zcR[i]? = some (if i < 2 then .int .i64 0 else .slice none 0 0) := by
  rcases (by omega : i = 0 ∨ i = 1 ∨ 2 ≤ i) with rfl | rfl | h
  · unfold zcR
    rw [Array.getElem?_append_left (by simp)]
    rfl
  · unfold zcR
    rw [Array.getElem?_append_left (by simp)]
    rfl
  · have e : zcR[i]? = (Array.replicate 256 (Value.slice none 0 0))[i - 2]? := by
      unfold zcR
      rw [Array.getElem?_append_right (by simpa using h)]
      rfl
    rw [e, if_neg (by omega)]
    rw [Array.getElem?_replicate, if_pos (by omega)]
theorem zero_ring : ∃ zc : Array Value, (∀ w, Sem.run Tryz.prog (zeroValue 136) w = .ok (.agg zc) w) ∧ zc.size = 258 ∧ ∀ i, i < 258 → zc[i]? = some (if i < 2 then .int .i64 0 else .slice none 0 0) :=
  ⟨zcR, zero_run, zcR_size, zcR_get⟩

set_option maxHeartbeats 1000000 in
theorem qnew_yes (a : Int) (w : World) (h0 : 0 ≤ a) (h1 : a ≤ 1099511627776) :
    Calls Tryz.prog 104 #[.int .i64 a] w fun e w' => e = .returned (.pointer (some ⟨w.heap.size, 0, none⟩)) ∧ Rg w' w.heap.size (fun k => k = w.heap.size) a [] ∧ w'.heap.size = w.heap.size + 1 ∧ Gr w w' := by
  obtain ⟨zc, hz, hs, hv⟩ := zero_ring
  have hne : ¬ zc = #[] := by
    rintro rfl
    cases hs
  have HV := hide hv
  clear hv
  go_enter Tryz.func104, Tryz.ntmps104
  go_wp2
  go_ret
  have hr : (w.alloc (.cells (zc.setIfInBounds 0 (.int .i64 a)) 136)).rowIs w.heap.size 136 258 (rv a ((([] : List (Int × Int)).length : Nat) : Int) (fun _ => .slice none 0 0)) := by
    have := World.rowIs_alloc w (zc.setIfInBounds 0 (.int .i64 a)) 136 (rv a ((([] : List (Int × Int)).length : Nat) : Int) (fun _ => .slice none 0 0)) (fun i hi => by
      have hi : i < 258 := by simpa [hs] using hi
      have := HV.out i hi
      rw [Array.getElem?_setIfInBounds]
      unfold rv
      rcases (by omega : i = 0 ∨ i = 1 ∨ 2 ≤ i) with rfl | rfl | h
      · simp [hs]
      · simpa using this
      · rw [if_neg (by omega), this, if_neg (by omega), if_neg (by omega), if_neg (by omega)])
    simpa [hs] using this
  refine ⟨rfl, ⟨h0, Near.nil a, rfl, ?_, fun _ => none, fun _ => .slice none 0 0, hr, ?_, ?_, ?_⟩, ?_, (by repeat (first | exact Gr.refl _ | assumption | exact Dr.gr (by assumption) | refine Gr.alloc ?_ _ | refine Gr.drewN ?_ _ | refine Gr.drew ?_ | refine Gr.trans ?_ (by assumption) | refine Gr.trans ?_ (Dr.gr (by assumption))))⟩
  · intro k hk
    rw [World.size_alloc]
    omega
  · exact fun i _ => .inl ⟨rfl, rfl, rfl⟩
  · intro i b _ e; cases e
  · intro i j b _ _ e; cases e
  · rw [World.size_alloc]
set_option maxHeartbeats 1000000 in
theorem qnew_no (a : Int) (w : World) (h : a < 0 ∨ 1099511627776 < a) :
    Calls Tryz.prog 104 #[.int .i64 a] w fun e w' => e = .returned (.pointer none) ∧ w' = w := by
  by_cases h0 : a < 0
  · go_enter Tryz.func104, Tryz.ntmps104
    go_wp2
    go_ret
    exact ⟨rfl, rfl⟩
  · have h1 : 1099511627776 < a := by omega
    clear h
    go_enter Tryz.func104, Tryz.ntmps104
    go_wp2
    go_ret
    exact ⟨rfl, rfl⟩

theorem bucket_any (k : Int) (i : Nat) (w : World) (h0 : 0 ≤ k) (h1 : k ≤ 9223372036854775807) (hi : k % 256 = (i : Int)) :
    Calls Tryz.prog 118 #[.int .i64 k] w fun e w' => e = .returned (.int .i64 (i : Int)) ∧ w' = w := by
  have H : Hid (k % 256 = (i : Int)) := hide hi
  clear hi
  go_enter Tryz.func118, Tryz.ntmps118
  go_wp2
  go_ret
  exact ⟨ret_int H.out, rfl⟩

theorem takes_any {w : World} {p : Nat} {FP : Nat → Prop} {a : Int} {L : List (Int × Int)} (h : Rg w p FP a L) (k : Int) (hk : k ≤ 9223372036854775807) :
    Calls Tryz.prog 125 #[.pointer (some ⟨p, 0, none⟩), .int .i64 k] w fun e w' => e = .returned (.bool (decide (a ≤ k) && decide (k - a < 256))) ∧ w' = w := by
  obtain ⟨c0, c1, cf⟩ := h.cells
  have ha := h.lo
  clear h
  by_cases hc : a ≤ k
  · have H : Hid (decide (k - a < 256) = (decide (a ≤ k) && decide (k - a < 256))) := hide (by simp [hc])
    go_enter Tryz.func125, Tryz.ntmps125
    go_wp2
    go_ret
    exact ⟨ret_bool H.out, rfl⟩
  · have H : Hid (false = (decide (a ≤ k) && decide (k - a < 256))) := hide (by simp [hc])
    go_enter Tryz.func125, Tryz.ntmps125
    go_wp2
    go_ret
    exact ⟨ret_bool H.out, rfl⟩

theorem qlen_any {w : World} {p : Nat} {FP : Nat → Prop} {a : Int} {L : List (Int × Int)} (h : Rg w p FP a L) :
    Calls Tryz.prog 115 #[.pointer (some ⟨p, 0, none⟩)] w fun e w' => e = .returned (.int .i64 (L.length : Int)) ∧ w' = w := by
  obtain ⟨c0, c1, cf⟩ := h.cells
  clear h
  go_enter Tryz.func115, Tryz.ntmps115
  go_wp2
  go_ret
  exact ⟨rfl, rfl⟩
theorem qlen_nil (w : World) : Calls Tryz.prog 115 #[.pointer none] w fun e w' => e = .returned (.int .i64 0) ∧ w' = w := by
  go_enter Tryz.func115, Tryz.ntmps115
  go_wp2
  go_ret
  exact ⟨rfl, rfl⟩

theorem Kp.gr_of {w w' : World} {row : Option Nat} (h : w.grownBy w' row) : Kp (fun k => row = some k) w w' := ⟨h.os, h.tape, h.output, h.size, fun k hk hs => h.block k hk (fun e => hs e.symm)⟩
/-- 'append' of one number to a bucket, as a step of a region that draws -/
theorem step_bu {ops : Array Oper} {o : Oper} {a : Act} {w : World} {K : Act → World → Prop} {Q : Exit → Act → World → Prop} {E : Prop}
    (hg : o.guard = none) (s x : Operand) (ho : o.op = Op.call { callee := Callee.builtin Builtin.append, args := #[s, x], argTypes := #[31, 31] })
    {g : Option Nat} {v : Value} {l : List Int} (hb : Bu w g v l) (hl : l.length ≤ 1000000) (hs : a.eval s = v) (b : Nat) (n : Int) (hx : a.eval x = .slice (some ⟨b, 0, none⟩) 1 1) (hc : w.cell? ⟨b, 0, none⟩ = some (.int .i64 n))
    (hK : ∀ a1 c1 w' g', Bu w' g' (.slice a1 (l.length + 1) c1) (l ++ [n]) → (g' = g ∨ ∃ b', g' = some b' ∧ w.heap.size ≤ b') → Kp (fun k => g = some k) w w' → K (a.put o.dst (.slice a1 (l.length + 1) c1)) w') :
    if Region.wanted o (yielded ops a.tmps) = true then Oper.wp Tryz.prog o a w K Q else E := by
  obtain ⟨i0, hi, hz0, hz1, hz2⟩ := info_parts info_int
  have hc1 : ∀ j u, ([Value.int .i64 n] : List Value)[j]? = some u → w.cell? ((⟨b, 0, none⟩ : Addr).add j) = some u := by
    intro j u hu
    cases j with
    | zero => simp only [List.getElem?_cons_zero, Option.some.injEq] at hu; subst hu; simpa [Addr.add] using hc
    | succ j => simp at hu
  have h1c : ∀ u ∈ ([Value.int .i64 n] : List Value), u.oneCell' = true := by simp [Value.oneCell']
  have grows : ∀ (ao : Option Addr) (cap : Nat), v = .slice ao l.length cap → (ao = none → l.length = 0 ∧ cap = 0) → cap < l.length + 1 → (∀ b, ao = some b → ∀ j u, (l.map fun z => Value.int .i64 z)[j]? = some u → w.cell? (b.add j) = some u) →
      if Region.wanted o (yielded ops a.tmps) = true then Oper.wp Tryz.prog o a w K Q else E := by
    intro ao cap hv hn hcap holds
    refine step_append_grows hg s x 31 ho 3 i0 (.int .i64 0) 1 8 Tryz.underlying31 hi hz0 hz1 hz2 rfl (by decide) ao l.length cap (l.map fun z => Value.int .i64 z) (hs.trans hv) hn (by simp) holds ⟨b, 0, none⟩ 1 1 [.int .i64 n] hx rfl hc1 h1c hcap (by unfold maxLen; omega) (by omega) ?_
    intro v' w' hown hgr
    rcases hown.2 with ⟨_, h0⟩ | ⟨g', cap', cur, rfl, hbase, hg', hn', _, hsz, ht⟩
    · omega
    · refine hK _ _ w' (some g') (.inr ⟨g', 0, cap', cur, rfl, ?_, hg', by omega, ?_, ?_⟩) (.inr ⟨g', rfl, hbase⟩) ((Kp.gr_of hgr).mono (fun k e => by cases e))
      · simp
      · simpa using hn'
      · intro i y hy
        have ht : cur.toList.take (l.length + 1) = (l ++ [n]).map fun z => Value.int .i64 z := by simpa using ht
        have hlt : i < l.length + 1 := by have := (List.getElem?_eq_some_iff.1 hy).1; simpa using this
        have e : (cur.toList.take (l.length + 1))[i]? = some (.int .i64 y) := by rw [ht, List.getElem?_map, hy]; rfl
        rw [List.getElem?_take, if_pos hlt] at e
        simpa using e
  rcases hb with ⟨hgn, hv, hln⟩ | ⟨b0, off, c, cur, rfl, hv, hblk, hoc, hlc, hcur⟩
  · subst hln
    exact grows none 0 hv (fun _ => ⟨rfl, rfl⟩) (by simp) (fun b hb => by cases hb)
  · have hcell : ∀ j, w.cell? ⟨b0, j, none⟩ = cur[j]? := fun j => cell_of_row w b0 j cur _ _ hblk
    by_cases hroom : l.length + 1 ≤ c
    · refine step_append_room hg s x 31 ho 3 i0 1 Tryz.underlying31 hi hz1 b0 off l.length c (hs.trans hv) ⟨b, 0, none⟩ 1 1 [.int .i64 n] hx rfl hc1 h1c hroom ?_ ?_
      · intro j hj
        have hj : j = 0 := by simp only [List.length_singleton] at hj; omega
        subst hj
        refine ⟨?_, ?_⟩
        · rw [hcell, Array.getElem?_eq_getElem (by omega)]
          rfl
        · simp [World.frozen?, hblk]
      · have e1 : w.setCells b0 (off + l.length * 1) [.int .i64 n] = w.setCell ⟨b0, off + l.length, none⟩ (.int .i64 n) := by simp [World.setCells]
        rw [e1]
        refine hK _ _ _ (some b0) (.inr ⟨b0, off, c, cur.setIfInBounds (off + l.length) (.int .i64 n), rfl, ?_, ?_, ?_, ?_, ?_⟩) (.inl rfl) (Kp.set (S := fun k => some b0 = some k) (Kp.refl _ w) (p := ⟨b0, off + l.length, none⟩) (.inl rfl) _)
        · simp
        · simp [World.setCell, Array.getElem?_modify, hblk]
        · simpa using hoc
        · simpa using hroom
        · intro i y hy
          rw [Array.getElem?_setIfInBounds]
          by_cases e : i = l.length
          · subst e
            rw [List.getElem?_append_right (Nat.le_refl _)] at hy
            simp only [Nat.sub_self, List.getElem?_cons_zero, Option.some.injEq] at hy
            subst hy
            simp; omega
          · have hlt : i < l.length + 1 := by have := (List.getElem?_eq_some_iff.1 hy).1; simpa using this
            rw [List.getElem?_append_left (by omega)] at hy
            rw [if_neg (by omega)]
            exact hcur i y hy
    · refine grows _ c hv (fun h => by cases h) (by omega) ?_
      intro b' hb' j u hu
      cases hb'
      rw [List.getElem?_map] at hu
      cases hj : l[j]? with
      | none => rw [hj] at hu; cases hu
      | some y =>
        rw [hj] at hu
        simp only [Option.map_some, Option.some.injEq] at hu
        subst hu
        have := hcur j y hj
        rw [← hcell] at this
        by_cases hj0 : j = 0
        · subst hj0
          simpa [Addr.add] using this
        · simpa [Addr.add, hj0] using this

theorem Bu.gr {w w' : World} {g : Option Nat} {v : Value} {l : List Int} (h : Bu w g v l) (k : Gr w w') : Bu w' g v l := h.of_block fun b hb => Below.block k b (by subst hb; exact h.lt)
/-- what a ring's box holds behind a store into its cell 2 + i and a new length -/
theorem rv_put (a n n' : Int) (vs : Nat → Value) (i : Nat) (v : Value) : ∀ j, j < 258 → (if j = 1 then Value.int .i64 n' else if j = 2 + i then v else rv a n vs j) = rv a n' (fun t => if t = i then v else vs t) j := by
  intro j _
  unfold rv
  dsimp only
  rcases (by omega : j = 0 ∨ j = 1 ∨ j = 2 + i ∨ (2 ≤ j ∧ j ≠ 2 + i)) with rfl | rfl | rfl | ⟨h, e⟩
  · rw [if_neg (by omega), if_neg (by omega), if_pos rfl, if_pos rfl]
  · rw [if_pos rfl, if_neg (by omega), if_pos rfl]
  · rw [if_neg (by omega), if_pos rfl, if_neg (by omega), if_neg (by omega), if_pos (by omega)]
  · rw [if_neg (by omega), if_neg e, if_neg (by omega), if_neg (by omega), if_neg (by omega), if_neg (by omega), if_neg (by omega)]
theorem rv_at (a n : Int) (vs : Nat → Value) (i : Nat) : rv a n vs (2 + i) = vs i := by
  unfold rv
  rw [if_neg (by omega), if_neg (by omega)]
  congr 1
  omega
theorem cell_new1 (w : World) (v : Value) (t : TypeId) : (w.alloc (.cells #[v] t)).cell? ⟨w.heap.size, 0, none⟩ = some v := by
  have := (World.rowIs_alloc w #[v] t (fun _ => v) (fun i hi => by have hi : i < 1 := hi; obtain rfl : i = 0 := (by omega); rfl)).cell (i := 0) (by show 0 < 1; omega)
  exact this
theorem Rg.put {w u w1 : World} {p : Nat} {FP : Nat → Prop} {a : Int} {L : List (Int × Int)} (h : Rg w p FP a L) {gs : Nat → Option Nat} {vs : Nat → Value}
    (h1 : w.rowIs p 136 258 (rv a L.length vs)) (h2 : ∀ i, i < 256 → Bu w (gs i) (vs i) (its L i)) (h3 : ∀ i b, i < 256 → gs i = some b → FP b ∧ b ≠ p) (h4 : ∀ i j b, i < 256 → j < 256 → gs i = some b → gs j = some b → i = j)
    (hu : Gr w u) {i : Nat} {k x : Int} (hi : k % 256 = (i : Int)) (hk1 : a ≤ k) (hk2 : k ≤ a + 255) {v' : Value} {g' : Option Nat} (hb : Bu w1 g' v' (its L i ++ [x])) (hg : g' = gs i ∨ ∃ b', g' = some b' ∧ u.heap.size ≤ b') (hkp : Kp (fun k => gs i = some k) u w1) {n' : Int} (hn : n' = L.length + 1) :
    (∃ FP', Rg ((w1.setCell ⟨p, 2 + i, none⟩ v').setCell ⟨p, 1, none⟩ (.int .i64 n')) p FP' a (L ++ [(k, x)]) ∧ ∀ b, FP' b → FP b ∨ w.heap.size ≤ b) ∧ Kp FP w ((w1.setCell ⟨p, 2 + i, none⟩ v').setCell ⟨p, 1, none⟩ (.int .i64 n')) := by
  have hi2 : i < 256 := by omega
  have hus : w.heap.size ≤ u.heap.size := Below.size hu
  have hsz : ((w1.setCell ⟨p, 2 + i, none⟩ v').setCell ⟨p, 1, none⟩ (.int .i64 n')).heap.size = w1.heap.size := by simp [World.setCell]
  have hblk : ∀ b, b ≠ p → ((w1.setCell ⟨p, 2 + i, none⟩ v').setCell ⟨p, 1, none⟩ (.int .i64 n')).heap[b]? = w1.heap[b]? := fun b hb => (Below.heap_setCell _ _ _ b hb).trans (Below.heap_setCell _ _ _ b hb)
  have hp : p < w.heap.size := h1.lt
  have hpg : ¬ gs i = some p := fun e => (h3 i p hi2 e).2 rfl
  have hrow1 := hkp.row (row_gr h1 hu) hpg
  have hg1 : ∀ b, g' = some b → b < w1.heap.size := fun b e => by subst e; exact hb.lt
  have hgp : ∀ b, g' = some b → b ≠ p := by
    intro b e
    rcases hg with rfl | ⟨b', rfl, hb'⟩
    · exact (h3 i b hi2 e).2
    · cases e; omega
  refine ⟨⟨fun b => (FP b ∨ w.heap.size ≤ b) ∧ b < w1.heap.size, ⟨h.lo, h.near.put hk1 hk2, ⟨.inl h.fp, hrow1.lt⟩, ?_, fun t => if t = i then g' else gs t, fun t => if t = i then v' else vs t, ?_, ?_, ?_, ?_⟩, fun b hb => hb.1⟩, ?_⟩
  · intro b hb
    rw [hsz]
    exact hb.2
  · refine World.rowIs.congr ((hrow1.set (2 + i) v').set 1 (.int .i64 n')) ?_
    intro j hj
    have := rv_put a L.length n' vs i v' j hj
    simp only [List.length_append, List.length_singleton]
    rw [this, hn]
    rfl
  · intro t ht
    rw [its_put, hi]
    by_cases e : t = i
    · subst e
      simp only [if_true]
      exact hb.of_block fun b e => hblk b (hgp b e)
    · dsimp only
      rw [if_neg e, if_neg e, if_neg (by omega)]
      refine ((h2 t ht).gr hu).of_block fun b hb => ?_
      rw [hblk b (h3 t b ht hb).2]
      exact hkp.block b (Nat.lt_of_lt_of_le (h.lt b (h3 t b ht hb).1) hus) (fun e2 => e (h4 t i b ht hi2 hb e2))
  · intro t b ht hb
    dsimp only at hb
    by_cases e : t = i
    · rw [if_pos e] at hb
      refine ⟨⟨?_, hg1 b hb⟩, hgp b hb⟩
      rcases hg with rfl | ⟨b', rfl, hb'⟩
      · exact .inl (h3 i b hi2 hb).1
      · cases hb; exact .inr (by omega)
    · rw [if_neg e] at hb
      have := (h3 t b ht hb)
      exact ⟨⟨.inl this.1, Nat.lt_of_lt_of_le (h.lt b this.1) (Nat.le_trans hus hkp.size)⟩, this.2⟩
  · intro t s b ht hs hb hc
    dsimp only at hb hc
    have key : ∀ q, q < 256 → q ≠ i → gs q = some b → g' = some b → False := by
      intro q hq hqi e1 e2
      rcases hg with rfl | ⟨b', rfl, hb'⟩
      · exact hqi (h4 q i b hq hi2 e1 e2)
      · cases e2
        have := h.lt b (h3 q b hq e1).1
        omega
    by_cases e : t = i
    · by_cases f : s = i
      · omega
      · rw [if_pos e] at hb
        rw [if_neg f] at hc
        exact (key s hs f hc hb).elim
    · by_cases f : s = i
      · rw [if_neg e] at hb
        rw [if_pos f] at hc
        exact (key t ht e hb hc).elim
      · rw [if_neg e] at hb
        rw [if_neg f] at hc
        exact h4 t s b ht hs hb hc
  · exact Kp.set (Kp.set (hu.kpb (hkp.mono fun b hb => (h3 i b hi2 hb).1)) (p := ⟨p, 2 + i, none⟩) (.inl h.fp) _) (p := ⟨p, 1, none⟩) (.inl h.fp) _


set_option maxHeartbeats 2000000 in
theorem qput_yes {w : World} {p : Nat} {FP : Nat → Prop} {a : Int} {L : List (Int × Int)} (h : Rg w p FP a L) (k x : Int) (hk1 : a ≤ k) (hk2 : k ≤ a + 255) (hL : L.length ≤ 1000000) (ha : a ≤ 4611686018427387904) :
    Calls Tryz.prog 114 #[.pointer (some ⟨p, 0, none⟩), .int .i64 k, .int .i64 x] w fun e w' => e = .returned (.bool true) ∧ (∃ FP', Rg w' p FP' a (L ++ [(k, x)]) ∧ ∀ b, FP' b → FP b ∨ w.heap.size ≤ b) ∧ Kp FP w w' := by
  obtain ⟨gs, vs, h1, h2, h3, h4⟩ := h.mem
  have hlo := h.lo
  obtain ⟨i, hi⟩ : ∃ i : Nat, k % 256 = (i : Int) := ⟨(k % 256).toNat, by omega⟩
  have hi2 : i < 256 := by omega
  have H1 := hide h1
  have HI := hide hi
  have HLO := hide hlo
  have c1 : w.cell? ⟨p, 1, none⟩ = some (.int .i64 (L.length : Int)) := h1.cell (i := 1) (by omega)
  have ci : w.cell? ⟨p, 2 + i, none⟩ = some (vs i) := by rw [h1.cell (i := 2 + i) (by omega), rv_at]
  have hi3 : (i : Int) < 256 := by omega
  have HB := hide (h2 i hi2)
  have hln := Nat.le_trans (its_len L i) hL
  have hpg : ¬ gs i = some p := fun e => (h3 i p hi2 e).2 rfl
  have hp := h1.lt
  have H2 := hide h2
  have H3 := hide h3
  have H4 := hide h4
  clear h1 hi h2 h3 h4
  have ht : (decide (a ≤ k) && decide (k - a < 256)) = true := by simp; omega
  go_enter Tryz.func114, Tryz.ntmps114
  go_wp2_with (first | (go_at_call 125; refine (takes_any h _ (by omega)).mono ?_; rintro e w' ⟨rfl, rfl⟩; rw [ht]) | (go_at_call 118; refine (bucket_any _ _ _ (by omega) (by omega) HI.out).mono ?_; rintro e w' ⟨rfl, rfl⟩))
  go_region_law (refine step_bu rfl (.tmp 25) (.tmp 27) rfl (HB.out.gr (by repeat (first | exact Gr.refl _ | assumption | exact Dr.gr (by assumption) | refine Gr.alloc ?_ _ | refine Gr.drewN ?_ _ | refine Gr.drew ?_ | refine Gr.trans ?_ (by assumption) | refine Gr.trans ?_ (Dr.gr (by assumption))))) hln (by simp [Act.eval]) w'.heap.size x (by simp [Act.eval]) (cell_new1 w'.drew _ _) ?_; intro a1 n1 w1 g1 hbu hgg hkp; have d1 : w1.cell? ⟨p, 1, none⟩ = some (.int .i64 (L.length : Int)) := (hkp.row (row_gr H1.out (by repeat (first | exact Gr.refl _ | assumption | exact Dr.gr (by assumption) | refine Gr.alloc ?_ _ | refine Gr.drewN ?_ _ | refine Gr.drew ?_ | refine Gr.trans ?_ (by assumption) | refine Gr.trans ?_ (Dr.gr (by assumption))))) hpg).cell (i := 1) (by omega); have di := (hkp.row (row_gr H1.out (by repeat (first | exact Gr.refl _ | assumption | exact Dr.gr (by assumption) | refine Gr.alloc ?_ _ | refine Gr.drewN ?_ _ | refine Gr.drew ?_ | refine Gr.trans ?_ (by assumption) | refine Gr.trans ?_ (Dr.gr (by assumption))))) hpg).cell (i := 2 + i) (by omega); have df := fun j => (hkp.row (row_gr H1.out (by repeat (first | exact Gr.refl _ | assumption | exact Dr.gr (by assumption) | refine Gr.alloc ?_ _ | refine Gr.drewN ?_ _ | refine Gr.drew ?_ | refine Gr.trans ?_ (by assumption) | refine Gr.trans ?_ (Dr.gr (by assumption))))) hpg).frozen j)
  all_goals (go_wp2; go_ret; exact ⟨rfl, h.put H1.out H2.out H3.out H4.out (by repeat (first | exact Gr.refl _ | assumption | exact Dr.gr (by assumption) | refine Gr.alloc ?_ _ | refine Gr.drewN ?_ _ | refine Gr.drew ?_ | refine Gr.trans ?_ (by assumption) | refine Gr.trans ?_ (Dr.gr (by assumption)))) HI.out hk1 hk2 hbu hgg hkp rfl⟩)
theorem qput_no {w : World} {p : Nat} {FP : Nat → Prop} {a : Int} {L : List (Int × Int)} (h : Rg w p FP a L) (k x : Int) (hk : k < a ∨ a + 255 < k) (hb : k ≤ 9223372036854775807) :
    Calls Tryz.prog 114 #[.pointer (some ⟨p, 0, none⟩), .int .i64 k, .int .i64 x] w fun e w' => e = .returned (.bool false) ∧ w' = w := by
  have ht : (decide (a ≤ k) && decide (k - a < 256)) = false := by simp; omega
  clear hk
  go_enter Tryz.func114, Tryz.ntmps114
  go_wp2_with (go_at_call 125; refine (takes_any h _ (by omega)).mono ?_; rintro e w' ⟨rfl, rfl⟩; rw [ht])
  go_ret
  exact ⟨rfl, rfl⟩
theorem qput_nil (k x : Int) (w : World) : Calls Tryz.prog 114 #[.pointer none, .int .i64 k, .int .i64 x] w fun e w' => e = .returned (.bool false) ∧ w' = w := by
  go_enter Tryz.func114, Tryz.ntmps114
  go_wp2
  go_ret
  exact ⟨rfl, rfl⟩

theorem qjump_yes {w : World} {p : Nat} {FP : Nat → Prop} {a : Int} (h : Rg w p FP a []) (k : Int) (h1 : a ≤ k) (h2 : k ≤ 1099511627776) :
    Calls Tryz.prog 113 #[.pointer (some ⟨p, 0, none⟩), .int .i64 k] w fun e w' => e = .returned (.bool true) ∧ Rg w' p FP k [] ∧ Kp FP w w' := by
  obtain ⟨c0, c1, cf⟩ := h.cells
  have hlo := h.lo
  have c1 : w.cell? ⟨p, 1, none⟩ = some (.int .i64 0) := c1
  go_enter Tryz.func113, Tryz.ntmps113
  go_wp2
  go_ret
  exact ⟨rfl, h.jump (by omega), Kp.set (Kp.refl FP w) (p := ⟨p, 0, none⟩) (.inl h.fp) _⟩
theorem qjump_full {w : World} {p : Nat} {FP : Nat → Prop} {a : Int} {L : List (Int × Int)} (h : Rg w p FP a L) (k : Int) (h1 : 0 < L.length) :
    Calls Tryz.prog 113 #[.pointer (some ⟨p, 0, none⟩), .int .i64 k] w fun e w' => e = .returned (.bool false) ∧ w' = w := by
  obtain ⟨c0, c1, cf⟩ := h.cells
  have h1 : (0 : Int) < (L.length : Int) := by omega
  go_enter Tryz.func113, Tryz.ntmps113
  go_wp2
  go_ret
  exact ⟨rfl, rfl⟩
theorem qjump_no {w : World} {p : Nat} {FP : Nat → Prop} {a : Int} (h : Rg w p FP a []) (k : Int) (h1 : k < a ∨ 1099511627776 < k) :
    Calls Tryz.prog 113 #[.pointer (some ⟨p, 0, none⟩), .int .i64 k] w fun e w' => e = .returned (.bool false) ∧ w' = w := by
  obtain ⟨c0, c1, cf⟩ := h.cells
  have c1 : w.cell? ⟨p, 1, none⟩ = some (.int .i64 0) := c1
  by_cases h0 : k < a
  · clear h1
    go_enter Tryz.func113, Tryz.ntmps113
    go_wp2
    go_ret
    exact ⟨rfl, rfl⟩
  · have h2 : 1099511627776 < k := by omega
    clear h1
    go_enter Tryz.func113, Tryz.ntmps113
    go_wp2
    go_ret
    exact ⟨rfl, rfl⟩
theorem qjump_nil (k : Int) (w : World) : Calls Tryz.prog 113 #[.pointer none, .int .i64 k] w fun e w' => e = .returned (.bool false) ∧ w' = w := by
  go_enter Tryz.func113, Tryz.ntmps113
  go_wp2
  go_ret
  exact ⟨rfl, rfl⟩

set_option maxHeartbeats 1000000 in
theorem least_any {w : World} {p : Nat} {FP : Nat → Prop} {a : Int} {L : List (Int × Int)} (h : Rg w p FP a L) (ha : a ≤ 4611686018427387904) {m : Nat} {k x : Int} (hf : FirstMin L m k x) :
    Calls Tryz.prog 116 #[.pointer (some ⟨p, 0, none⟩)] w fun e w' => e = .returned (.int .i64 k) ∧ Dr w w' := by
  obtain ⟨gs, vs, h1, h2, h3, h4⟩ := h.mem
  have hlo := h.lo
  have hk := h.near _ hf.mem
  simp only at hk
  have hn := hide h.near
  have hF := hide hf
  have hform : ∀ i, i < 256 → ∃ ai ci, w.cell? ⟨p, 2 + i, none⟩ = some (.slice ai (its L i).length ci) := by
    intro i hi
    obtain ⟨ai, ci, e, -⟩ := (h2 i hi).form
    exact ⟨ai, ci, by rw [h1.cell (i := 2 + i) (by omega), rv_at, e]⟩
  have HW := hide hform
  have c0 : w.cell? ⟨p, 0, none⟩ = some (.int .i64 a) := h.cells.1
  clear h h1 h2 h3 h4 hf hform
  obtain ⟨hk1, hk2⟩ := hk
  go_enter Tryz.func116, Tryz.ntmps116
  go_wp2_with fail
  go_loopw [3] (fun t u => ∃ j : Int, a ≤ j ∧ j ≤ k ∧ t = .int .i64 j ∧ Dr w u) (fun t _ => (k + 1 - intOf t).toNat)
  case atStart => exact ⟨a, Int.le_refl _, hk1, rfl, Dr.refl _⟩
  case round =>
    obtain ⟨j, hj1, hj2, rfl, hd⟩ := hrel
    replace c0 := cell_gr c0 hd.gr
    obtain ⟨i, hi⟩ : ∃ i : Nat, j % 256 = (i : Int) := ⟨(j % 256).toNat, by omega⟩
    have hi3 : (i : Int) < 256 := by omega
    obtain ⟨ai, ci, hc⟩ := HW.out i (by omega)
    replace hc := cell_gr hc hd.gr
    have HI := hide hi
    have ht : j < a + 256 := by omega
    by_cases e : j = k
    · have E := hide e
      have hl : (0 : Int) < ((its L i).length : Int) := by
        have := least_full hn.out hF.out (by rw [← e]; exact hi)
        omega
      clear e hi hj2
      go_wp2_with fail
      go_quiet ((go_at_call 118; refine Calls.quiet_of_same (bucket_any _ _ _ (by omega) (by omega) HI.out)))
      go_wp2
      go_ret
      exact ⟨ret_int E.out, by repeat (first | exact Dr.refl _ | assumption | refine Dr.add ?_ | refine Dr.trans ?_ (by assumption))⟩
    · have hl : (its L i).length = 0 := by
        rw [least_empty hn.out hF.out hj1 (by omega) hi]
        rfl
      have hlt : j < k := by omega
      rw [hl] at hc
      clear e hi hj2 hl
      go_wp2_with fail
      go_quiet ((go_at_call 118; refine Calls.quiet_of_same (bucket_any _ _ _ (by omega) (by omega) HI.out)))
      go_wp2
      go_roundw
      case rel => exact ⟨j + 1, by omega, by omega, by go_num, by repeat (first | exact Dr.refl _ | assumption | refine Dr.add ?_ | refine Dr.trans ?_ (by assumption))⟩
      case measure => simp [intOf]; omega

theorem Near.min {a : Int} {L : List (Int × Int)} (hn : Near a L) {m : Nat} {k x : Int} (h : FirstMin L m k x) : Near k L := by
  intro e he
  have r := hn e he
  have s := hn _ h.mem
  simp only at s
  exact ⟨h.2.1 e he, by omega⟩
theorem rv_at0 (a k n : Int) (vs : Nat → Value) : ∀ j, j < 258 → (if j = 0 then Value.int .i64 k else rv a n vs j) = rv k n vs j := by
  intro j _
  unfold rv
  split <;> rfl
/-- the first of the least key is where the ring is -/
theorem Rg.at {w : World} {p : Nat} {FP : Nat → Prop} {a : Int} {L : List (Int × Int)} (h : Rg w p FP a L) {m : Nat} {k x : Int} (hf : FirstMin L m k x) : Rg (w.setCell ⟨p, 0, none⟩ (.int .i64 k)) p FP k L := by
  obtain ⟨gs, vs, h1, h2, h3, h4⟩ := h.mem
  have hk := h.near _ hf.mem
  have hl := h.lo
  simp only at hk
  exact ⟨by omega, h.near.min hf, h.fp, fun b hb => by simpa [World.setCell] using h.lt b hb, gs, vs, (h1.set 0 _).congr (rv_at0 _ _ _ _), fun i hi => (h2 i hi).of_block fun b hb => Below.heap_setCell w _ _ b (h3 i b hi hb).2, h3, h4⟩
theorem Rg.take {w w1 : World} {p : Nat} {FP : Nat → Prop} {k : Int} {L : List (Int × Int)} (h : Rg w p FP k L) {gs : Nat → Option Nat} {vs : Nat → Value}
    (h1 : w.rowIs p 136 258 (rv k L.length vs)) (h2 : ∀ i, i < 256 → Bu w (gs i) (vs i) (its L i)) (h3 : ∀ i b, i < 256 → gs i = some b → FP b ∧ b ≠ p) (h4 : ∀ i j b, i < 256 → j < 256 → gs i = some b → gs j = some b → i = j)
    (hu : Gr w w1) {i m : Nat} {x : Int} (hf : FirstMin L m k x) (hi : k % 256 = (i : Int)) {v' : Value} {g' : Option Nat} (hb : Bu w g' v' (its (L.eraseIdx m) i)) (hg : g' = gs i ∨ g' = none) {n' : Int} (hn : n' = L.length - 1) :
    Rg ((w1.setCell ⟨p, 2 + i, none⟩ v').setCell ⟨p, 1, none⟩ (.int .i64 n')) p FP k (L.eraseIdx m) ∧ Kp FP w ((w1.setCell ⟨p, 2 + i, none⟩ v').setCell ⟨p, 1, none⟩ (.int .i64 n')) := by
  have hi2 : i < 256 := by omega
  have hsz : ((w1.setCell ⟨p, 2 + i, none⟩ v').setCell ⟨p, 1, none⟩ (.int .i64 n')).heap.size = w1.heap.size := by simp [World.setCell]
  have hblk : ∀ b, b ≠ p → ((w1.setCell ⟨p, 2 + i, none⟩ v').setCell ⟨p, 1, none⟩ (.int .i64 n')).heap[b]? = w1.heap[b]? := fun b hb => (Below.heap_setCell _ _ _ b hb).trans (Below.heap_setCell _ _ _ b hb)
  have hlt := hf.lt
  refine ⟨⟨h.lo, h.near.erase hf, h.fp, ?_, fun t => if t = i then g' else gs t, fun t => if t = i then v' else vs t, ?_, ?_, ?_, ?_⟩, ?_⟩
  · intro b hb
    rw [hsz]
    exact Nat.lt_of_lt_of_le (h.lt b hb) (Below.size hu)
  · refine World.rowIs.congr (((row_gr h1 hu).set (2 + i) v').set 1 (.int .i64 n')) ?_
    intro j hj
    have := rv_put k L.length n' vs i v' j hj
    rw [erase_len hf]
    have e : ((L.length - 1 : Nat) : Int) = n' := by omega
    rw [e]
    exact this
  · intro t ht
    by_cases e : t = i
    · subst e
      simp only [if_true]
      exact (hb.gr hu).of_block fun b e => hblk b (by rcases hg with rfl | rfl; exact (h3 t b ht e).2; cases e)
    · dsimp only
      rw [if_neg e, if_neg e]
      have := its_take h.near hf t
      rw [if_neg (by omega)] at this
      rw [← this]
      exact ((h2 t ht).gr hu).of_block fun b hb => hblk b (h3 t b ht hb).2
  · intro t b ht hb
    dsimp only at hb
    by_cases e : t = i
    · rw [if_pos e] at hb
      rcases hg with rfl | rfl
      · exact h3 i b hi2 hb
      · cases hb
    · rw [if_neg e] at hb
      exact h3 t b ht hb
  · intro t s b ht hs hb hc
    dsimp only at hb hc
    have key : ∀ q, q < 256 → (if q = i then g' else gs q) = some b → gs q = some b := by
      intro q hq hh
      by_cases e : q = i
      · rw [if_pos e] at hh
        rcases hg with rfl | rfl
        · rw [e]; exact hh
        · cases hh
      · rwa [if_neg e] at hh
    exact h4 t s b ht hs (key t ht hb) (key s hs hc)
  · exact Kp.set (Kp.set hu.kp (p := ⟨p, 2 + i, none⟩) (.inl h.fp) _) (p := ⟨p, 1, none⟩) (.inl h.fp) _

set_option maxHeartbeats 2000000 in
theorem take_any {w : World} {p : Nat} {FP : Nat → Prop} {L : List (Int × Int)} {m : Nat} {k x : Int} (h : Rg w p FP k L) (hf : FirstMin L m k x) {i : Nat} (hi : k % 256 = (i : Int)) (hL : L.length ≤ 1000000) :
    Calls Tryz.prog 117 #[.pointer (some ⟨p, 0, none⟩), .int .i64 (i : Int)] w fun e w' => e = .returned (.int .i64 x) ∧ Rg w' p FP k (L.eraseIdx m) ∧ Kp FP w w' := by
  obtain ⟨gs, vs, h1, h2, h3, h4⟩ := h.mem
  have hi2 : i < 256 := by omega
  have hi3 : (i : Int) < 256 := by omega
  have hts := its_take h.near hf i
  rw [if_pos hi] at hts
  have hb := h2 i hi2
  have ci : w.cell? ⟨p, 2 + i, none⟩ = some (vs i) := by rw [h1.cell (i := 2 + i) (by omega), rv_at]
  have c1 : w.cell? ⟨p, 1, none⟩ = some (.int .i64 (L.length : Int)) := h1.cell (i := 1) (by omega)
  have cf := fun j => h1.frozen j
  have hl0 : 0 < L.length := Nat.lt_of_le_of_lt (Nat.zero_le _) hf.lt
  rw [hts] at hb
  have H1 := hide h1
  have H2 := hide h2
  have H3 := hide h3
  have H4 := hide h4
  have HI := hide hi
  clear hi h1 h2 h3 h4 hts
  rcases hb with ⟨_, _, e⟩ | ⟨b, o, c, cur, hgi, hv, hblk, hoc, hlc, hcur⟩
  · cases e
  have cx : w.cell? ⟨b, o, none⟩ = some (.int .i64 x) := by
    have := hcur 0 x rfl
    rw [cell_of_row w b o cur _ _ hblk]
    exact this
  rw [hv] at ci
  obtain ⟨n, hn⟩ : ∃ n, n = (its (L.eraseIdx m) i).length := ⟨_, rfl⟩
  rw [List.length_cons, ← hn] at ci hlc
  have hn' := Nat.le_trans (its_len (L.eraseIdx m) i) (by rw [erase_len hf]; omega : (L.eraseIdx m).length ≤ 1000000)
  rw [← hn] at hn'
  have HBlk := hide hblk
  have HC := hide hcur
  have HV := hide hv
  have HN := hide hn
  clear hblk hcur hv
  by_cases e : n = 0
  · have hbn : Bu w none (.slice none 0 0) (its (L.eraseIdx m) i) := .inl ⟨rfl, rfl, List.eq_nil_of_length_eq_zero (by omega)⟩
    have HBN := hide hbn
    clear hn hbn
    subst e
    go_enter Tryz.func117, Tryz.ntmps117
    go_wp2
    go_ret
    exact ⟨rfl, h.take H1.out H2.out H3.out H4.out (Gr.refl _) hf HI.out HBN.out (.inr rfl) rfl⟩
  · have hbn : Bu w (some b) (.slice (some ⟨b, o + 1, none⟩) n (c - 1)) (its (L.eraseIdx m) i) := by
      refine .inr ⟨b, o + 1, c - 1, cur, rfl, by rw [hn], HBlk.out, by omega, by omega, ?_⟩
      intro j y hj
      have := HC.out (j + 1) y (by simpa using hj)
      rw [← this]
      congr 1
      omega
    have HBN := hide hbn
    have HGI := hide hgi
    have he : ((n : Int) + 1 == 1) = false := by simp; omega
    clear hn hbn hgi
    go_enter Tryz.func117, Tryz.ntmps117
    go_wp2
    go_region
    all_goals (go_wp2; go_ret; obtain ⟨r1, r2⟩ := h.take H1.out H2.out H3.out H4.out (Gr.refl _) hf HI.out HBN.out (.inl HGI.out.symm) rfl; exact ⟨rfl, r1.gr (Gr.refl _).drew, r2.grb (Gr.refl _).drew⟩)

set_option maxHeartbeats 1000000 in
theorem qpop_yes {w : World} {p : Nat} {FP : Nat → Prop} {a : Int} {L : List (Int × Int)} (h : Rg w p FP a L) (ha : a ≤ 4611686018427387904) {m : Nat} {k x : Int} (hf : FirstMin L m k x) (hL : L.length ≤ 1000000) :
    Calls Tryz.prog 106 #[.pointer (some ⟨p, 0, none⟩)] w fun e w' => e = .returned (.tuple #[.int .i64 k, .int .i64 x, .bool true]) ∧ Rg w' p FP k (L.eraseIdx m) ∧ Kp FP w w' := by
  have hl : ((L.length : Int) == 0) = false := by have := hf.lt; rw [beq_eq_false_iff_ne]; omega
  have hk := h.near _ hf.mem
  have hlo := h.lo
  simp only at hk
  obtain ⟨i, hi⟩ : ∃ i : Nat, k % 256 = (i : Int) := ⟨(k % 256).toNat, by omega⟩
  have HI := hide hi
  clear hi
  have c0 := h.cells.1
  have cf := h.cells.2.2
  have hk0 : 0 ≤ k := by omega
  have hk1 : k ≤ 9223372036854775807 := by omega
  go_enter Tryz.func106, Tryz.ntmps106
  go_wp2_with (first | (go_at_call 115; refine (qlen_any h).mono ?_; rintro e w' ⟨rfl, rfl⟩) | (go_at_call 116; refine (least_any h ha hf).mono ?_; rintro e w2 ⟨rfl, hd2⟩; have d0 := cell_gr c0 hd2.gr; have df := fun j => (Dr.gr hd2).frozen p j (h.lt p h.fp)))
  have hR := (h.gr hd2.gr).at hf
  have hkp : Kp FP w' (w2.setCell ⟨p, 0, none⟩ (.int .i64 k)) := Kp.set hd2.gr.kp (p := ⟨p, 0, none⟩) (.inl h.fp) _
  generalize w2.setCell ⟨p, 0, none⟩ (.int .i64 k) = u at *
  have e0 := hR.cells.1
  clear hl hd2 c0 d0 df cf
  go_region_held3 (fun z => z.cell? ⟨p, 0, none⟩ = some (.int .i64 k)) (first | exact e0 | exact hr9.cells.1) (first | (go_at_call 118; refine (bucket_any _ _ _ hk0 hk1 HI.out).mono ?_; rintro e w9 ⟨rfl, rfl⟩) | (go_at_call 117; refine (take_any (hR.gr (by repeat (first | exact Gr.refl _ | assumption | exact Dr.gr (by assumption) | refine Gr.alloc ?_ _ | refine Gr.drewN ?_ _ | refine Gr.drew ?_ | refine Gr.trans ?_ (by assumption) | refine Gr.trans ?_ (Dr.gr (by assumption))))) hf HI.out hL).mono ?_; rintro e w8 ⟨rfl, hr9, hk9⟩))
  go_wp2
  go_ret3
  exact ⟨rfl, hr9, hkp.trans (Gr.kpb (by repeat (first | exact Gr.refl _ | assumption | exact Dr.gr (by assumption) | refine Gr.alloc ?_ _ | refine Gr.drewN ?_ _ | refine Gr.drew ?_ | refine Gr.trans ?_ (by assumption) | refine Gr.trans ?_ (Dr.gr (by assumption)))) hk9)⟩
theorem qpop_no {w : World} {p : Nat} {FP : Nat → Prop} {a : Int} (h : Rg w p FP a []) :
    Calls Tryz.prog 106 #[.pointer (some ⟨p, 0, none⟩)] w fun e w' => e = .returned (.tuple #[.int .i64 0, .int .i64 0, .bool false]) ∧ w' = w := by
  go_enter Tryz.func106, Tryz.ntmps106
  go_wp2_with (go_at_call 115; refine (qlen_any h).mono ?_; rintro e w' ⟨rfl, rfl⟩)
  go_ret3
  exact ⟨rfl, rfl⟩
theorem qpop_nil (w : World) : Calls Tryz.prog 106 #[.pointer none] w fun e w' => e = .returned (.tuple #[.int .i64 0, .int .i64 0, .bool false]) ∧ w' = w := by
  go_enter Tryz.func106, Tryz.ntmps106
  go_wp2_with (go_at_call 115; refine (qlen_nil _).mono ?_; rintro e w' ⟨rfl, rfl⟩)
  go_ret3
  exact ⟨rfl, rfl⟩

end Go.Proofs.YtgbadbkipaccgaaGreat
