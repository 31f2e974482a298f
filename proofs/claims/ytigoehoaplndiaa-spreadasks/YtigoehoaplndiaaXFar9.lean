/- A row of distances of the call's own, beside a ring of the call's own. No condition. -/
import Derived.Test.YtigoehoaplndiaaQPop
import Derived.Test.YtigoehoaplndiaaXMath9
import Derived.Test.YtigoehoaplndiaaTNear
namespace Go.Proofs.Ytigoehoaplndiaa
open Go.RowKit
set_option maxRecDepth 20000

/-- the row at block g: n integers, with room for c -/
def FarS (w : World) (g c n : Nat) (F : Nat → Int) : Prop := n ≤ c ∧ c ≤ maxLen ∧ ∃ vs : Nat → Value, w.rowIs g 3 c vs ∧ ∀ i, i < n → vs i = .int .i64 (F i)
theorem FarS.cell {w : World} {g c n : Nat} {F : Nat → Int} (h : FarS w g c n F) {i : Nat} (hi : i < n) : w.cell? ⟨g, i, none⟩ = some (.int .i64 (F i)) := by
  obtain ⟨h1, h2, vs, h3, h4⟩ := h
  rw [← h4 i hi]
  exact h3.cell (by omega)
theorem FarS.frozen {w : World} {g c n : Nat} {F : Nat → Int} (h : FarS w g c n F) (i : Nat) : w.frozen? ⟨g, i, none⟩ = false := by
  obtain ⟨h1, h2, vs, h3, h4⟩ := h
  exact h3.frozen i
theorem FarS.lt {w : World} {g c n : Nat} {F : Nat → Int} (h : FarS w g c n F) : g < w.heap.size := by
  obtain ⟨h1, h2, vs, h3, h4⟩ := h
  exact h3.lt
theorem FarS.kp {S : Nat → Prop} {w w' : World} {g c n : Nat} {F : Nat → Int} (h : FarS w g c n F) (k : Kp S w w') (hs : ¬ S g) : FarS w' g c n F := by
  obtain ⟨h1, h2, vs, h3, h4⟩ := h
  exact ⟨h1, h2, vs, k.row h3 hs, h4⟩
theorem FarS.gr {w w' : World} {g c n : Nat} {F : Nat → Int} (h : FarS w g c n F) (k : Gr w w') : FarS w' g c n F := h.kp (S := fun _ => False) k.kp id
theorem FarS.set {w : World} {g c n : Nat} {F : Nat → Int} (h : FarS w g c n F) (i : Nat) (k : Int) : FarS (w.setCell ⟨g, i, none⟩ (.int .i64 k)) g c n (upF F i k) := by
  obtain ⟨h1, h2, vs, h3, h4⟩ := h
  refine ⟨h1, h2, _, h3.set i _, fun j hj => ?_⟩
  by_cases e : j = i
  · subst e; simp [upF]
  · simp only [upF, if_neg e]; exact h4 j hj
theorem FarS.own {w : World} {g c n base : Nat} {F : Nat → Int} (h : FarS w g c n F) (hb : base ≤ g) : w.ownsRow base 3 1 (.slice (some ⟨g, 0, none⟩) n c) n (cel .i64 n F) := by
  obtain ⟨h1, h2, vs, ⟨cur, e1, e2, e3⟩, h4⟩ := h
  refine ⟨by simp [cel], .inr ⟨g, c, cur, rfl, hb, e1, h1, h2, by omega, ?_⟩⟩
  rw [Nat.mul_one]
  apply List.ext_getElem?
  intro t
  by_cases ht : t < n
  · rw [List.getElem?_take_of_lt ht, Array.getElem?_toList, e3 t (by omega), h4 t ht, cel_get _ _ _ ht]
  · rw [List.getElem?_take_eq_none (by omega), List.getElem?_eq_none (by rw [cel_len]; omega)]
theorem FarS.of_own {w : World} {base : Nat} {v : Value} {n : Nat} {F : Nat → Int} (h : w.ownsRow base 3 1 v n (cel .i64 n F)) (hn : 0 < n) : ∃ g c, v = .slice (some ⟨g, 0, none⟩) n c ∧ base ≤ g ∧ FarS w g c n F := by
  obtain ⟨_, ⟨_, h0⟩ | ⟨g, c, cur, e, hb, e1, h1, h2, e2, e3⟩⟩ := h
  · omega
  · refine ⟨g, c, e, hb, h1, h2, fun i => cur[i]!, ⟨cur, e1, by omega, fun i hi => ?_⟩, fun i hi => ?_⟩
    · show cur[i]? = some cur[i]!
      rw [getElem!_pos cur i (by omega)]
      exact Array.getElem?_eq_getElem (by omega)
    · have q : cur[i]? = some (.int .i64 (F i)) := by
        rw [← Array.getElem?_toList, ← List.getElem?_take_of_lt (l := cur.toList) (j := n * 1) (by omega), e3, cel_get _ _ _ hi]
      obtain ⟨a, b⟩ := Array.getElem?_eq_some_iff.1 q
      show cur[i]! = _
      rw [getElem!_pos cur i a, b]

/-- the row of distances at g, the ring at p; both above all that was there in w0; the ring apart from the blocks of X -/
structure Dj (w0 : World) (X : Nat → Prop) (u : World) (g cf n : Nat) (F : Nat → Int) (p : Nat) (a : Int) (Q : List (Int × Int)) : Prop where
  gr : Gr w0 u
  far : FarS u g cf n F
  ge : w0.heap.size ≤ g
  own : X g
  has : ∀ b, X b → b < u.heap.size
  ring : ∃ FP, Rg u p FP a Q ∧ ∀ b, FP b → w0.heap.size ≤ b ∧ ¬ X b
/-- nothing has turned but what the ring may write -/
abbrev Kr (w0 : World) (X : Nat → Prop) : World → World → Prop := Kp fun b => w0.heap.size ≤ b ∧ ¬ X b
section
variable {w0 u : World} {X : Nat → Prop} {g cf n : Nat} {F : Nat → Int} {p : Nat} {a : Int} {Q : List (Int × Int)}
theorem Dj.lo (h : Dj w0 X u g cf n F p a Q) : 0 ≤ a := by
  obtain ⟨FP, h1, h2⟩ := h.ring
  exact h1.lo
theorem Dj.near (h : Dj w0 X u g cf n F p a Q) : Near a Q := by
  obtain ⟨FP, h1, h2⟩ := h.ring
  exact h1.near
theorem Dj.grw {u' : World} (h : Dj w0 X u g cf n F p a Q) (k : Gr u u') : Dj w0 X u' g cf n F p a Q := by
  obtain ⟨FP, h1, h2⟩ := h.ring
  exact ⟨h.gr.trans k, h.far.gr k, h.ge, h.own, fun b hb => Nat.lt_of_lt_of_le (h.has b hb) k.size, FP, h1.gr k, h2⟩
theorem Dj.set (h : Dj w0 X u g cf n F p a Q) (i : Nat) (k : Int) : Dj w0 X (u.setCell ⟨g, i, none⟩ (.int .i64 k)) g cf n (upF F i k) p a Q := by
  obtain ⟨FP, h1, h2⟩ := h.ring
  exact ⟨h.gr.set h.ge _, h.far.set i k, h.ge, h.own, fun b hb => by simpa [World.setCell] using h.has b hb, FP, h1.kp (S := fun b => b = g) ((Kp.refl (fun b => b = g) u).set (p := ⟨g, i, none⟩) (.inl rfl) _) (fun b hb e => (h2 b hb).2 (e ▸ h.own)), h2⟩
theorem Dj.mono {Y : Nat → Prop} (h : Dj w0 X u g cf n F p a Q) (hy : ∀ b, Y b → X b) (ho : Y g) : Dj w0 Y u g cf n F p a Q := by
  obtain ⟨FP, h1, h2⟩ := h.ring
  exact ⟨h.gr, h.far, h.ge, ho, fun b hb => h.has b (hy b hb), FP, h1, fun b hb => ⟨(h2 b hb).1, fun q => (h2 b hb).2 (hy b q)⟩⟩
/-- what has been made since lies apart, too -/
theorem Dj.more {u' : World} {B : Nat} (h : Dj w0 X u g cf n F p a Q) (k : Gr u u') (h1 : u.heap.size ≤ B) (h2 : B < u'.heap.size) : Dj w0 (fun b => X b ∨ b = B) u' g cf n F p a Q := by
  obtain ⟨FP, h3, h4⟩ := h.ring
  refine ⟨h.gr.trans k, h.far.gr k, h.ge, .inl h.own, fun b hb => ?_, FP, h3.gr k, fun b hb => ⟨(h4 b hb).1, ?_⟩⟩
  · rcases hb with hb | hb
    · exact Nat.lt_of_lt_of_le (h.has b hb) k.size
    · omega
  · rintro (q | q)
    · exact (h4 b hb).2 q
    · have := h3.lt b hb
      omega
theorem Dj.put_of {FP FP' : Nat → Prop} {u' : World} {a' : Int} {Q' : List (Int × Int)} (h : Dj w0 X u g cf n F p a Q) (h2 : ∀ b, FP b → w0.heap.size ≤ b ∧ ¬ X b) (hr : Rg u' p FP' a' Q') (hf : ∀ b, FP' b → FP b ∨ u.heap.size ≤ b) (hk : Kp FP u u') :
    Dj w0 X u' g cf n F p a' Q' ∧ Kr w0 X u u' := by
  have hs := Below.size h.gr
  refine ⟨⟨hk.gr h.gr (fun b hb => (h2 b hb).1), h.far.kp hk (fun q => (h2 g q).2 h.own), h.ge, h.own, fun b hb => Nat.lt_of_lt_of_le (h.has b hb) hk.size, FP', hr, fun b hb => ?_⟩, hk.mono h2⟩
  rcases hf b hb with q | q
  · exact h2 b q
  · exact ⟨by omega, fun x => by have := h.has b x; omega⟩
theorem dput (h : Dj w0 X u g cf n F p a Q) (k x : Int) (hk1 : a ≤ k) (hk2 : k ≤ a + 255) (hL : Q.length ≤ 1000000) (ha : a ≤ 4611686018427387904) :
    Calls Try.prog 55 #[.pointer (some ⟨p, 0, none⟩), .int .i64 k, .int .i64 x] u fun e u' => e = .returned (.bool true) ∧ Dj w0 X u' g cf n F p a (Q ++ [(k, x)]) ∧ Kr w0 X u u' := by
  obtain ⟨FP, h1, h2⟩ := h.ring
  refine (qput_yes h1 k x hk1 hk2 hL ha).mono ?_
  rintro e w' ⟨rfl, ⟨FP', hr, hfp⟩, hk⟩
  exact ⟨rfl, h.put_of h2 hr hfp hk⟩
theorem dput_no (h : Dj w0 X u g cf n F p a Q) (k x : Int) (hk : k < a ∨ a + 255 < k) (hb : k ≤ 9223372036854775807) :
    Calls Try.prog 55 #[.pointer (some ⟨p, 0, none⟩), .int .i64 k, .int .i64 x] u fun e u' => e = .returned (.bool false) ∧ Dj w0 X u' g cf n F p a Q ∧ Kr w0 X u u' := by
  obtain ⟨FP, h1, h2⟩ := h.ring
  refine (qput_no h1 k x hk hb).mono ?_
  rintro e w' ⟨rfl, rfl⟩
  exact ⟨rfl, h, Kp.refl _ _⟩
theorem dpop (h : Dj w0 X u g cf n F p a Q) (ha : a ≤ 4611686018427387904) {m : Nat} {k x : Int} (hf : FirstMin Q m k x) (hL : Q.length ≤ 1000000) :
    Calls Try.prog 38 #[.pointer (some ⟨p, 0, none⟩)] u fun e u' => e = .returned (.tuple #[.int .i64 k, .int .i64 x, .bool true]) ∧ Dj w0 X u' g cf n F p k (Q.eraseIdx m) ∧ Kr w0 X u u' := by
  obtain ⟨FP, h1, h2⟩ := h.ring
  refine (qpop_yes h1 ha hf hL).mono ?_
  rintro e w' ⟨rfl, hr, hk⟩
  exact ⟨rfl, h.put_of h2 hr (fun b hb => .inl hb) hk⟩
theorem dpop_no (h : Dj w0 X u g cf n F p a []) :
    Calls Try.prog 38 #[.pointer (some ⟨p, 0, none⟩)] u fun e u' => e = .returned (.tuple #[.int .i64 0, .int .i64 0, .bool false]) ∧ u' = u := by
  obtain ⟨FP, h1, h2⟩ := h.ring
  exact qpop_no h1
theorem djump (h : Dj w0 X u g cf n F p a Q) (k : Int) (hk : a ≤ k) (hk2 : k ≤ 1099511627776) :
    Calls Try.prog 54 #[.pointer (some ⟨p, 0, none⟩), .int .i64 k] u fun e u' => (∃ b a', e = .returned (.bool b) ∧ Dj w0 X u' g cf n F p a' Q ∧ ((Q = [] ∧ a' = k) ∨ (Q ≠ [] ∧ a' = a))) ∧ Kr w0 X u u' := by
  obtain ⟨FP, h1, h2⟩ := h.ring
  by_cases hl : Q = []
  · subst hl
    refine (qjump_yes h1 k hk hk2).mono ?_
    rintro e w' ⟨rfl, hr, hk⟩
    have q := h.put_of h2 hr (fun b hb => .inl hb) hk
    exact ⟨⟨_, _, rfl, q.1, .inl ⟨rfl, rfl⟩⟩, q.2⟩
  · refine (qjump_full h1 k (List.length_pos_iff.2 hl)).mono ?_
    rintro e w' ⟨rfl, rfl⟩
    exact ⟨⟨_, _, rfl, h, .inr ⟨hl, rfl⟩⟩, Kp.refl _ _⟩
end
/-- a new ring beside the row -/
theorem dnew {w0 u : World} {g cf n : Nat} {F : Nat → Int} (hg : Gr w0 u) (hf : FarS u g cf n F) (hge : w0.heap.size ≤ g) :
    Calls Try.prog 36 #[.int .i64 0] u fun e u' => ∃ p, e = .returned (.pointer (some ⟨p, 0, none⟩)) ∧ Dj w0 (fun b => b = g) u' g cf n F p 0 [] := by
  refine (qnew_yes 0 u (by omega) (by omega)).mono ?_
  rintro e u' ⟨rfl, hr, _, hg'⟩
  have hs := Below.size hg
  have hlt := hf.lt
  refine ⟨_, rfl, hg.trans hg', hf.gr hg', hge, rfl, fun b hb => ?_, _, hr, fun b hb => ⟨?_, ?_⟩⟩
  · have := Below.size hg'
    omega
  · rw [hb]; omega
  · rw [hb]; omega
end Go.Proofs.Ytigoehoaplndiaa
