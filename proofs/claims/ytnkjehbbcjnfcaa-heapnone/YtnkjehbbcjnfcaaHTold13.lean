/- A heap of the call's own, as the sorted list of what waits; the law's told. No condition. -/
import Derived.Test.YtnkjehbbcjnfcaaBH
namespace Go.Proofs.Ytnkjehbbcjnfcaa
open Go.RowKit
set_option maxRecDepth 20000

/-- a heap at p, above all that was there in w0, beside the blocks of PB; S waits in it -/
structure Hs (w0 u : World) (p : Nat) (S : List (Int × Int)) (PB : Nat → Prop) : Prop where
  mem : ∃ v L, Hm u p v L ∧ Wt L S ∧ ∀ k, OfH p v k → w0.heap.size ≤ k ∧ ¬ PB k
  pb : ∀ k, PB k → k < u.heap.size
  g : Gr w0 u
variable {w0 u : World} {p : Nat} {S : List (Int × Int)} {PB : Nat → Prop}
theorem Hs.gr {u' : World} (h : Hs w0 u p S PB) (k : Gr u u') : Hs w0 u' p S PB := by
  obtain ⟨v, L, h1, h2, h3⟩ := h.mem
  exact ⟨⟨v, L, h1.gr k, h2, h3⟩, fun t ht => Nat.lt_of_lt_of_le (h.pb t ht) (Below.size k), h.g.trans k⟩
/-- what was made since may not be written either -/
theorem Hs.more {u' : World} (h : Hs w0 u p S PB) (k : Gr u u') {PC : Nat → Prop} (hc : ∀ t, PC t → (PB t ∨ u.heap.size ≤ t) ∧ t < u'.heap.size) : Hs w0 u' p S PC := by
  obtain ⟨v, L, h1, h2, h3⟩ := h.mem
  refine ⟨⟨v, L, h1.gr k, h2, fun t ht => ⟨(h3 t ht).1, fun q => ?_⟩⟩, fun t ht => (hc t ht).2, h.g.trans k⟩
  rcases (hc t q).1 with r | r
  · exact (h3 t ht).2 r
  · have := h1.lt ht
    omega
/-- a store beside it -/
theorem Hs.kp {T : Nat → Prop} {u' : World} (h : Hs w0 u p S PB) (k : Kp T u u') (ht : ∀ b, T b → PB b ∧ w0.heap.size ≤ b) : Hs w0 u' p S PB := by
  obtain ⟨v, L, h1, h2, h3⟩ := h.mem
  exact ⟨⟨v, L, h1.kp k (fun b hb q => (h3 b hb).2 (ht b q).1), h2, h3⟩, fun t q => Nat.lt_of_lt_of_le (h.pb t q) k.size, k.gr h.g (fun b q => (ht b q).2)⟩
/-- a store into the blocks beside it, whichever these are behind it -/
theorem Hs.move {T : Nat → Prop} {u' : World} (h : Hs w0 u p S PB) (k : Kp T u u') (ht : ∀ b, T b → PB b ∧ w0.heap.size ≤ b) {PC : Nat → Prop} (hc : ∀ t, PC t → (PB t ∨ u.heap.size ≤ t) ∧ t < u'.heap.size) : Hs w0 u' p S PC := by
  obtain ⟨v, L, h1, h2, h3⟩ := h.mem
  refine ⟨⟨v, L, h1.kp k (fun b hb q => (h3 b hb).2 (ht b q).1), h2, fun t hb => ⟨(h3 t hb).1, fun q => ?_⟩⟩, fun t q => (hc t q).2, k.gr h.g (fun b q => (ht b q).2)⟩
  rcases (hc t q).1 with r | r
  · exact (h3 t hb).2 r
  · have := h1.lt hb
    omega
theorem Hs.srt (h : Hs w0 u p S PB) : SrtP S := by
  obtain ⟨v, L, h1, h2, h3⟩ := h.mem
  exact h2.srt
theorem snew (hg : Gr w0 u) (hp : ∀ k, PB k → k < u.heap.size) :
    Calls Try.prog 7 #[] u fun e u' => (∃ p, e = .returned (.pointer (some ⟨p, 0, none⟩)) ∧ Hs w0 u' p [] PB) ∧ Gr u u' := by
  refine (hnew_any u).mono ?_
  rintro e u' ⟨⟨p, rfl, rfl, hm⟩, hs, hg'⟩
  refine ⟨⟨_, rfl, ⟨_, [], hm, Wt.nil, fun k hk => ?_⟩, fun k hk => by have := hp k hk; omega, hg.trans hg'⟩, hg'⟩
  rcases hk with rfl | hk
  · exact ⟨Below.size hg, fun q => by have := hp _ q; omega⟩
  · cases hk
theorem spush (h : Hs w0 u p S PB) (k x : Int) (hn : S.length ≤ 999999) :
    Calls Try.prog 9 #[.pointer (some ⟨p, 0, none⟩), .int .i64 k, .int .i64 x] u fun e u' => e = .returned (.tuple #[]) ∧ Hs w0 u' p (insP (k, x) S) PB ∧ Kp (fun t => ¬ PB t) u u' := by
  obtain ⟨v, L, h1, h2, h3⟩ := h.mem
  refine (hpush_any h1 (by rw [h2.len]; exact hn) h2.ok k x).mono ?_
  rintro e u' ⟨rfl, ⟨v', M, hM, hp, ho, hb⟩, hk⟩
  refine ⟨rfl, ⟨⟨v', M, hM, h2.push (k, x) hp ho, fun t ht => ?_⟩, fun t ht => Nat.lt_of_lt_of_le (h.pb t ht) hk.size, hk.gr h.g (fun t ht => (h3 t ht).1)⟩, hk.mono fun t ht => (h3 t ht).2⟩
  rcases hb t ht with q | q
  · exact h3 t q
  · exact ⟨Nat.le_trans (Below.size h.g) q, fun r => by have := h.pb t r; omega⟩
theorem spop {y : Int × Int} (h : Hs w0 u p (y :: S) PB) (hn : S.length ≤ 999999) :
    Calls Try.prog 11 #[.pointer (some ⟨p, 0, none⟩)] u fun e u' => e = .returned (.tuple #[.int .i64 y.1, .int .i64 y.2, .bool true]) ∧ Hs w0 u' p S PB ∧ Kp (fun t => ¬ PB t) u u' := by
  obtain ⟨v, L, h1, h2, h3⟩ := h.mem
  have hl := h2.len
  rw [List.length_cons] at hl
  refine (hpop_any h1 (by omega) (by omega) h2.ok).mono ?_
  rw [h2.top]
  rintro e u' ⟨rfl, ⟨v', M, hM, hp, ho, hb⟩, hk⟩
  exact ⟨rfl, ⟨⟨v', M, hM, h2.pop hp ho, fun t ht => h3 t (hb t ht)⟩, fun t ht => Nat.lt_of_lt_of_le (h.pb t ht) hk.size, hk.gr h.g (fun t ht => (h3 t ht).1)⟩, hk.mono fun t ht => (h3 t ht).2⟩
theorem spop_no (h : Hs w0 u p [] PB) :
    Calls Try.prog 11 #[.pointer (some ⟨p, 0, none⟩)] u fun e u' => e = .returned (.tuple #[.int .i64 0, .int .i64 0, .bool false]) ∧ u' = u := by
  obtain ⟨v, L, h1, h2, h3⟩ := h.mem
  obtain rfl : L = [] := List.eq_nil_of_length_eq_zero h2.len
  exact hpop_no h1
theorem stop {y : Int × Int} (h : Hs w0 u p (y :: S) PB) :
    Calls Try.prog 10 #[.pointer (some ⟨p, 0, none⟩)] u fun e u' => e = .returned (.tuple #[.int .i64 y.1, .int .i64 y.2, .bool true]) ∧ Gr u u' := by
  obtain ⟨v, L, h1, h2, h3⟩ := h.mem
  have hl := h2.len
  rw [List.length_cons] at hl
  have := htop_any h1 (by omega)
  rw [h2.top] at this
  exact this
theorem stop_no (h : Hs w0 u p [] PB) :
    Calls Try.prog 10 #[.pointer (some ⟨p, 0, none⟩)] u fun e u' => e = .returned (.tuple #[.int .i64 0, .int .i64 0, .bool false]) ∧ u' = u := by
  obtain ⟨v, L, h1, h2, h3⟩ := h.mem
  obtain rfl : L = [] := List.eq_nil_of_length_eq_zero h2.len
  exact htop_no h1
theorem slen (h : Hs w0 u p S PB) :
    Calls Try.prog 12 #[.pointer (some ⟨p, 0, none⟩)] u fun e u' => e = .returned (.int .i64 (S.length : Int)) ∧ u' = u := by
  obtain ⟨v, L, h1, h2, h3⟩ := h.mem
  rw [← h2.len]
  exact hlen_any h1

set_option maxHeartbeats 1000000 in
theorem told13_any (w : World) : Calls Try.prog 13 #[] w fun e w' => e = .returned (.bool true) ∧ Gr w w' := by
  go_enter Try.func13, Try.ntmps13
  go_wp2_with fail
  refine (snew (PB := fun _ => False) (Gr.refl w) (fun k hk => hk.elim)).mono ?_
  rintro e w1 ⟨⟨p, rfl, hM⟩, -⟩
  go_wp2_with fail
  refine (spush hM 3 1 (by simp)).mono ?_
  clear hM
  rintro e w2 ⟨rfl, hM, -⟩
  rw [show insP ((3 : Int), (1 : Int)) [] = [(3, 1)] from rfl] at hM
  go_wp2_with fail
  refine (spush hM 2 9 (by simp)).mono ?_
  clear hM
  rintro e w3 ⟨rfl, hM, -⟩
  rw [show insP ((2 : Int), (9 : Int)) [(3, 1)] = [(2, 9), (3, 1)] by decide] at hM
  go_wp2_with fail
  refine (spush hM 2 4 (by simp)).mono ?_
  clear hM
  rintro e w4 ⟨rfl, hM, -⟩
  rw [show insP ((2 : Int), (4 : Int)) [(2, 9), (3, 1)] = [(2, 4), (2, 9), (3, 1)] by decide] at hM
  go_wp2_with fail
  refine (spop hM (by simp)).mono ?_
  clear hM
  rintro e w6 ⟨rfl, hM, -⟩
  go_wp2_with fail
  refine (slen hM).mono ?_
  rintro e w7 ⟨rfl, rfl⟩
  go_wp2_with fail
  go_ret
  exact ⟨rfl, hM.g⟩

set_option maxHeartbeats 1000000 in
theorem heapNone_any (x y : Int) (w : World) :
    Calls Try.prog 6 #[.int .i64 x, .int .i64 y] w fun e w' => e = .returned (.bool true) ∧ Gr w w' := by
  go_enter Try.func6, Try.ntmps6
  go_wp2_with fail
  refine (hpush_nil _ _ _).mono ?_
  rintro e w1 ⟨rfl, rfl⟩
  go_wp2_with fail
  refine (hpop_nil _).mono ?_
  rintro e w1 ⟨rfl, rfl⟩
  go_wp2_with fail
  refine (htop_nil _).mono ?_
  rintro e w1 ⟨rfl, rfl⟩
  go_wp2_with fail
  refine (snew (PB := fun _ => False) (Gr.refl w1) (fun k hk => hk.elim)).mono ?_
  rintro e w2 ⟨⟨p, rfl, hM⟩, -⟩
  go_wp2_with fail
  refine (hnew_any w2).mono ?_
  rintro e w3 ⟨⟨q, rfl, rfl, hq⟩, hs3, hg3⟩
  replace hM := hM.more hg3 (PC := fun t => t = w2.heap.size) (fun t ht => ⟨.inr (Nat.le_of_eq ht.symm), by omega⟩)
  clear hs3 hg3
  generalize w2.heap.size = q at *
  go_wp2_with fail
  refine (spush hM x y (by simp)).mono ?_
  clear hM
  rintro e w4 ⟨rfl, hM, hk⟩
  rw [show insP (x, y) [] = [(x, y)] from rfl] at hM
  replace hq := hq.kp hk (fun b hb hc => hc (by rcases hb with hb | hb; exact hb; cases hb))
  clear hk
  go_wp2_with fail
  refine (stop hM).mono ?_
  rintro e w5 ⟨rfl, hg⟩
  replace hM := hM.gr hg
  replace hq := hq.gr hg
  clear hg
  go_wp2_with fail
  refine (told13_any _).mono ?_
  rintro e w6 ⟨rfl, hg⟩
  replace hM := hM.gr hg
  replace hq := hq.gr hg
  clear hg
  go_wp2_with fail
  refine (hlen_nil _).mono ?_
  rintro e w7 ⟨rfl, rfl⟩
  go_wp2_with fail
  refine (hlen_any hq).mono ?_
  rintro e w7 ⟨rfl, rfl⟩
  go_wp2_with fail
  refine (slen hM).mono ?_
  rintro e w7 ⟨rfl, rfl⟩
  go_wp2_with fail
  go_ret
  exact ⟨rfl, hM.g⟩
end Go.Proofs.Ytnkjehbbcjnfcaa
