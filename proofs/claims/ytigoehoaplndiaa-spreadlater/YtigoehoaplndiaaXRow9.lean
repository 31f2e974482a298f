/- A row of seeds of the call's own that is written to, by the index. No condition. -/
import Derived.Test.YtigoehoaplndiaaXFew9
namespace Go.Proofs.Ytigoehoaplndiaa
open Go.RowKit
set_option maxRecDepth 20000

/-- block g holds the seeds q, n of them, with room for c -/
def SR (u : World) (g c n : Nat) (q : Nat → Sd) : Prop := n ≤ c ∧ c ≤ maxLen ∧ ∃ f : Nat → Value, u.rowIs g 39 (c * 3) f ∧ ∀ i, i < n → f (i * 3) = .int .i64 (q i).1 ∧ f (i * 3 + 1) = .int .i64 (q i).2.1 ∧ f (i * 3 + 2) = .int .i64 (q i).2.2
theorem SR.cells {u : World} {g c n : Nat} {q : Nat → Sd} (h : SR u g c n q) {i : Nat} (hi : i < n) : u.cell? ⟨g, i * 3, none⟩ = some (.int .i64 (q i).1) ∧ u.cell? ⟨g, i * 3 + 1, none⟩ = some (.int .i64 (q i).2.1) ∧ u.cell? ⟨g, i * 3 + 2, none⟩ = some (.int .i64 (q i).2.2) := by
  obtain ⟨h1, h2, f, h3, h4⟩ := h
  obtain ⟨e1, e2, e3⟩ := h4 i hi
  have a := h3.cell (i := i * 3) (by omega)
  have b := h3.cell (i := i * 3 + 1) (by omega)
  have d := h3.cell (i := i * 3 + 2) (by omega)
  rw [e1] at a; rw [e2] at b; rw [e3] at d
  exact ⟨a, b, d⟩
theorem SR.frozen {u : World} {g c n : Nat} {q : Nat → Sd} (h : SR u g c n q) (i : Nat) : u.frozen? ⟨g, i, none⟩ = false := by
  obtain ⟨h1, h2, f, h3, h4⟩ := h
  exact h3.frozen i
theorem SR.lt {u : World} {g c n : Nat} {q : Nat → Sd} (h : SR u g c n q) : g < u.heap.size := by
  obtain ⟨h1, h2, f, h3, h4⟩ := h
  exact h3.lt
theorem SR.kp {S : Nat → Prop} {u u' : World} {g c n : Nat} {q : Nat → Sd} (h : SR u g c n q) (k : Kp S u u') (hs : ¬ S g) : SR u' g c n q := by
  obtain ⟨h1, h2, f, h3, h4⟩ := h
  exact ⟨h1, h2, f, k.row h3 hs, h4⟩
theorem SR.gr {u u' : World} {g c n : Nat} {q : Nat → Sd} (h : SR u g c n q) (k : Gr u u') : SR u' g c n q := h.kp (S := fun _ => False) k.kp id
theorem SR.congr {u : World} {g c n : Nat} {q r : Nat → Sd} (h : SR u g c n q) (e : ∀ i, i < n → r i = q i) : SR u g c n r := by
  obtain ⟨h1, h2, f, h3, h4⟩ := h
  exact ⟨h1, h2, f, h3, fun i hi => by rw [e i hi]; exact h4 i hi⟩
theorem SR.key {u : World} {g c n : Nat} {q : Nat → Sd} (h : SR u g c n q) (j : Nat) (k : Int) : SR (u.setCell ⟨g, j * 3 + 2, none⟩ (.int .i64 k)) g c n (fun i => if i = j then ((q i).1, (q i).2.1, k) else q i) := by
  obtain ⟨h1, h2, f, h3, h4⟩ := h
  refine ⟨h1, h2, _, h3.set _ _, fun i hi => ?_⟩
  obtain ⟨e1, e2, e3⟩ := h4 i hi
  rw [if_neg (by omega), if_neg (by omega)]
  by_cases e : i = j
  · subst e
    simp only [if_true]
    exact ⟨e1, e2, trivial⟩
  · simp only [if_neg e]
    rw [if_neg (by omega)]
    exact ⟨e1, e2, e3⟩
/-- the seeds q as a list -/
def lstQ (n : Nat) (q : Nat → Sd) : List Sd := (List.range n).map q
theorem lstQ_len (n : Nat) (q : Nat → Sd) : (lstQ n q).length = n := by simp [lstQ]
theorem lstQ_el {n : Nat} {q : Nat → Sd} {i : Nat} (h : i < n) : el (lstQ n q) i = q i := by simp [el, lstQ, h]
theorem lstQ_succ (n : Nat) (q : Nat → Sd) : lstQ (n + 1) q = lstQ n q ++ [q n] := by simp [lstQ, List.range_succ]
theorem lstQ_mem {n : Nat} {q : Nat → Sd} {x : Sd} (h : x ∈ lstQ n q) : ∃ i, i < n ∧ q i = x := by
  obtain ⟨i, hi, e⟩ := List.mem_map.1 h
  exact ⟨i, List.mem_range.1 hi, e⟩
theorem SR.sls {u : World} {g c n : Nat} {q : Nat → Sd} (h : SR u g c n q) : SlS u (some ⟨g, 0, none⟩) n c (lstQ n q) := by
  refine .inr ⟨_, rfl, lstQ_len _ _, h.1, h.2.1, .inr ⟨g, 0, rfl, h.lt, fun j v hv => ?_⟩⟩
  have hj : j < n * 3 := by
    have := (List.getElem?_eq_some_iff.1 hv).1
    rwa [flatS_len, lstQ_len] at this
  rw [flatS_at (lstQ n q) (by rw [lstQ_len]; exact hj), lstQ_el (by omega)] at hv
  obtain ⟨a, b, d⟩ := h.cells (i := j / 3) (by omega)
  rw [Nat.zero_add]
  rcases (by omega : j % 3 = 0 ∨ j % 3 = 1 ∨ j % 3 = 2) with r | r | r
  · rw [r] at hv; rw [show j / 3 * 3 = j by omega] at a; rw [a]; exact hv
  · rw [r] at hv; rw [show j / 3 * 3 + 1 = j by omega] at b; rw [b]; exact hv
  · rw [r] at hv; rw [show j / 3 * 3 + 2 = j by omega] at d; rw [d]; exact hv
theorem SR.of_own {w : World} {base n c : Nat} {a : Option Addr} {L : List Sd} (h : w.ownsRow base 39 3 (.slice a n c) n (flatS L)) (hl : L.length = n) (hn : 0 < n) : ∃ g, a = some ⟨g, 0, none⟩ ∧ base ≤ g ∧ SR w g c n (el L) := by
  rcases h.2 with ⟨e, h0⟩ | ⟨g, cap, cur, e, hb, e1, h1, h2, e2, e3⟩
  · omega
  · cases e
    refine ⟨g, rfl, hb, h1, h2, fun i => cur[i]!, ⟨cur, e1, e2, fun i hi => ?_⟩, fun i hi => ?_⟩
    · show cur[i]? = some cur[i]!
      rw [getElem!_pos cur i (by omega)]
      exact Array.getElem?_eq_getElem (by omega)
    · have q : ∀ t u, t < n * 3 → (flatS L)[t]? = some u → cur[t]! = u := fun t u ht hu => by
        rw [← e3, List.getElem?_take_of_lt ht, Array.getElem?_toList] at hu
        obtain ⟨h, e⟩ := Array.getElem?_eq_some_iff.1 hu
        rw [getElem!_pos cur t h, e]
      obtain ⟨f1, f2, f3⟩ := flatS_get L i (el L i) (el_get? (by omega))
      exact ⟨q _ _ (by omega) f1, q _ _ (by omega) f2, q _ _ (by omega) f3⟩
theorem Kp.grow {S : Nat → Prop} {a u u' : World} {row : Option Nat} (h : Kp S a u) (k : u.grownBy u' row) (hr : ∀ b, row = some b → a.heap.size ≤ b) : Kp S a u' :=
  ⟨k.os.trans h.os, k.tape.trans h.tape, k.output.trans h.output, Nat.le_trans h.size k.size, fun i hi hs => (k.block i (Nat.lt_of_lt_of_le hi h.size) (fun e => by have := hr i e.symm; omega)).trans (h.block i hi hs)⟩
end Go.Proofs.Ytigoehoaplndiaa
