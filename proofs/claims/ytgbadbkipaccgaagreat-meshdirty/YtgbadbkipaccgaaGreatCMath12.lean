/- Tables: how far it is between locals; there and back, over a third one. Numbers alone. No condition. -/
import Derived.Test.YtgbadbkipaccgaaGreatBX1
namespace Go.Proofs.YtgbadbkipaccgaaGreat

/-- one goal -/
def goalL (g : Int) : List Sd := [(g, 4, 0)]
section
variable {nb : Int → Int → Int} {f : Nat → Int} {n : Nat}
theorem told_goal {g : Nat} : Told nb f n (goalL (g : Int)) g 0 := .seed g ((g : Int), 4, 0) (.head _) rfl
theorem told_over {g : Nat} {L : List Sd} {c : Nat} {v u : Int} (h : Told nb f n (goalL (g : Int)) c v) (k : Told nb f n L g u) : Told nb f n L c (v + u) := by
  induction h with
  | seed c x hx e =>
    obtain rfl := List.mem_singleton.1 hx
    simp only at e
    obtain rfl : g = c := by omega
    simpa using k
  | step c m s v h h1 h2 h3 h4 h5 h6 h7 ih =>
    have := Told.step c m s _ ih h1 h2 h3 h4 h5 h6 h7
    rwa [show v + u + f m = v + f m + u by omega] at this
/-- the same way, turned about -/
theorem told_turn (hg : Gph nb f n) {j c : Nat} {v : Int} (h : Told nb f n (goalL (j : Int)) c v) : Told nb f n (goalL (c : Int)) j (v + f c - f j) := by
  induction h with
  | seed c x hx e =>
    obtain rfl := List.mem_singleton.1 hx
    simp only at e
    obtain rfl : j = c := by omega
    have := told_goal (nb := nb) (f := f) (n := n) (g := j)
    rwa [show (0 : Int) = (0 : Int) + f j - f j by omega] at this
  | step c m s v h h1 h2 h3 h4 h5 h6 h7 ih =>
    obtain ⟨_, t, t0, t3, ht⟩ := hg.sym c m s h1 h2 h3 h4
    have a : Told nb f n (goalL (c : Int)) m (0 + f c) := .step m c t 0 told_goal t0 t3 ht h5 h4 h7 h6
    have := told_over ih a
    rwa [show v + f m - f j + (0 + f c) = v + f m + f c - f j by omega] at this
theorem sds_goal {g : Nat} (h : g < n) (ho : f g ≠ 255) : Sds f n 0 (goalL (g : Int)) := by
  intro x hx
  obtain rfl := List.mem_singleton.1 hx
  exact ⟨g, rfl, h, ho, Int.le_refl _, Int.le_refl _⟩
theorem told_far (hg : Gph nb f n) {g c : Nat} {v : Int} (hgn : g < n) (ho : f g ≠ 255) (h : Told nb f n (goalL (g : Int)) c v) (hne : c ≠ g) : 1 ≤ v := by
  cases h with
  | seed c x hx e =>
    obtain rfl := List.mem_singleton.1 hx
    simp only at e
    omega
  | step c m s v h h1 h2 h3 h4 h5 h6 h7 =>
    have := h.pos hg (sds_goal hgn ho)
    have := hg.cost m h5
    omega
/-- how far it is to a local -/
structure Col (nb : Int → Int → Int) (f : Nat → Int) (n : Nat) (g : Nat) (d : Nat → Int) : Prop where
  sp : Sprd nb f n (goalL (g : Int)) d
  bd : ∀ c, c < n → d c < 1099511627776 → d c ≤ 64770
theorem Col.zero (hg : Gph nb f n) {g : Nat} {d : Nat → Int} (h : Col nb f n g d) (hgn : g < n) (ho : f g ≠ 255) : d g = 0 := by
  have a := h.sp.low g 0 told_goal
  have b := h.sp.pos hg (sds_goal hgn ho) hgn
  omega
theorem Col.far (hg : Gph nb f n) {g c : Nat} {d : Nat → Int} (h : Col nb f n g d) (hgn : g < n) (ho : f g ≠ 255) (hc : c < n) (hne : c ≠ g) : 1 ≤ d c := by
  by_cases k : d c < 1099511627776
  · exact told_far hg hgn ho (h.sp.is c hc k) hne
  · omega
theorem Col.pos (hg : Gph nb f n) {g c : Nat} {d : Nat → Int} (h : Col nb f n g d) (hgn : g < n) (ho : f g ≠ 255) (hc : c < n) : 0 ≤ d c := h.sp.pos hg (sds_goal hgn ho) hc
theorem Col.over (hg : Gph nb f n) {j k c : Nat} {a b : Nat → Int} (ha : Col nb f n k a) (hb : Col nb f n j b) (hk : k < n) (hok : f k ≠ 255) (hj : j < n) (hoj : f j ≠ 255) (hc : c < n) : b c ≤ a c + b k := by
  have p1 := hb.pos hg hj hoj hk
  have p2 := ha.pos hg hk hok hc
  have t1 := hb.sp.top c hc
  by_cases q : a c < 1099511627776
  · by_cases r : b k < 1099511627776
    · exact hb.sp.low c _ (told_over (ha.sp.is c hc q) (hb.sp.is k hk r))
    · omega
  · omega
theorem Col.turn (hg : Gph nb f n) {i j : Nat} {a b : Nat → Int} (ha : Col nb f n j a) (hb : Col nb f n i b) (hi : i < n) (hj : j < n) :
    (a i < 1099511627776 ∧ b j < 1099511627776 ∧ a i + f i = b j + f j) ∨ (a i = 1099511627776 ∧ b j = 1099511627776) := by
  have t1 := ha.sp.top i hi
  have t2 := hb.sp.top j hj
  have c1 := hg.cost i hi
  have c2 := hg.cost j hj
  have l1 : a i < 1099511627776 → b j ≤ a i + f i - f j := fun k => hb.sp.low j _ (told_turn hg (ha.sp.is i hi k))
  have l2 : b j < 1099511627776 → a i ≤ b j + f j - f i := fun k => ha.sp.low i _ (told_turn hg (hb.sp.is j hj k))
  have l3 := ha.bd i hi
  have l4 := hb.bd j hj
  omega
theorem Col.uniq {g c : Nat} {a b : Nat → Int} (ha : Col nb f n g a) (hb : Sprd nb f n (goalL (g : Int)) b) (hc : c < n) : a c = b c := ha.sp.uniq hb hc

/-- open locals, rising -/
structure Opn (f : Nat → Int) (n : Nat) (z : Nat → Int) (m : Nat) : Prop where
  loc : ∀ i, i < m → 0 ≤ z i ∧ z i < (n : Int) ∧ f (z i).toNat ≠ 255
  rise : ∀ i, i + 1 < m → z i < z (i + 1)
theorem Opn.lt {z : Nat → Int} {m : Nat} (h : Opn f n z m) {i : Nat} : ∀ {j : Nat}, i < j → j < m → z i < z j
  | 0, a, _ => absurd a (Nat.not_lt_zero _)
  | j + 1, a, b => by
    have r := h.rise j b
    by_cases e : i = j
    · subst e; exact r
    · have := h.lt (i := i) (j := j) (by omega) (by omega)
      omega
theorem Opn.ne {z : Nat → Int} {m : Nat} (h : Opn f n z m) {i j : Nat} (hi : i < m) (hj : j < m) (e : i ≠ j) : (z i).toNat ≠ (z j).toNat := by
  have a := h.loc i hi
  have b := h.loc j hj
  rcases Nat.lt_or_gt_of_ne e with k | k
  · have := h.lt k hj
    omega
  · have := h.lt k hi
    omega
theorem Opn.ge {z : Nat → Int} {m : Nat} (h : Opn f n z m) : ∀ i : Nat, i < m → (i : Int) ≤ z i
  | 0, a => (h.loc 0 a).1
  | i + 1, a => by
    have r := h.rise i a
    have := h.ge i (by omega)
    omega
theorem Opn.size {z : Nat → Int} {m : Nat} (h : Opn f n z m) : m ≤ n := by
  cases m with
  | zero => exact Nat.zero_le _
  | succ k =>
    have a := h.ge k (Nat.lt_succ_self _)
    have b := h.loc k (Nat.lt_succ_self _)
    omega
/-- a table of m columns, the first j are told: row r, column i: how far it is from the r-th to the i-th -/
def TabP (P : Nat → (Nat → Int) → Prop) (z : Nat → Int) (m : Nat) (G : Nat → Int) (j : Nat) : Prop :=
  ∀ i, i < j → ∃ d, P (z i).toNat d ∧ ∀ r, r < m → G (r * m + i) = d (z r).toNat
theorem place_inj {m i j r c : Nat} (hj : j < m) (hc : c < m) (e : i * m + j = r * m + c) : i = r ∧ j = c := by
  have hm : 0 < m := by omega
  have h1 : (i * m + j) / m = i := by rw [Nat.mul_comm, Nat.mul_add_div hm, Nat.div_eq_of_lt hj, Nat.add_zero]
  have h2 : (r * m + c) / m = r := by rw [Nat.mul_comm, Nat.mul_add_div hm, Nat.div_eq_of_lt hc, Nat.add_zero]
  have : i = r := by rw [← h1, ← h2, e]
  subst this
  exact ⟨rfl, by omega⟩
theorem place_lt {m i j : Nat} (hi : i < m) (hj : j < m) : i * m + j < m * m := by
  have : (i + 1) * m ≤ m * m := Nat.mul_le_mul_right m hi
  rw [Nat.succ_mul] at this
  omega
theorem TabP.next {P : Nat → (Nat → Int) → Prop} {z G : Nat → Int} {m j : Nat} {d : Nat → Int} (h : TabP P z m G j) (hd : P (z j).toNat d) (hr : ∀ r, r < m → G (r * m + j) = d (z r).toNat) : TabP P z m G (j + 1) := by
  intro i hi
  by_cases e : i = j
  · subst e; exact ⟨d, hd, hr⟩
  · exact h i (by omega)
theorem TabP.put {P : Nat → (Nat → Int) → Prop} {z G : Nat → Int} {m j r : Nat} {x : Int} (h : TabP P z m G j) (hj : j < m) : TabP P z m (upF G (r * m + j) x) j := by
  intro i hi
  obtain ⟨d, h1, h2⟩ := h i hi
  refine ⟨d, h1, fun q hq => ?_⟩
  rw [upF_ne G x (fun e => by have := (place_inj (by omega) hj e).2; omega)]
  exact h2 q hq
theorem rows_put {z G : Nat → Int} {m j r : Nat} {d : Nat → Int} (h : ∀ q, q < r → G (q * m + j) = d (z q).toNat) (hj : j < m) : ∀ q, q < r + 1 → upF G (r * m + j) (d (z r).toNat) (q * m + j) = d (z q).toNat := by
  intro q hq
  by_cases e : q = r
  · subst e; rw [upF_at]
  · rw [upF_ne G _ (fun k => e (place_inj hj hj k).1)]
    exact h q (by omega)
theorem place_of {m p : Nat} (h : p < m * m) : p / m < m ∧ p % m < m ∧ p = p / m * m + p % m := by
  have hm : 0 < m := Nat.pos_of_ne_zero fun e => by subst e; omega
  refine ⟨Nat.div_lt_of_lt_mul h, Nat.mod_lt _ hm, ?_⟩
  have := Nat.div_add_mod p m
  rw [Nat.mul_comm] at this
  exact this.symm
theorem tab_same {z G E : Nat → Int} {m : Nat} (h : TabP (Col nb f n) z m G m) (k : TabP (fun g d => Sprd nb f n (goalL (g : Int)) d) z m E m) (ho : Opn f n z m) : ∀ p, p < m * m → G p = E p := by
  intro p hp
  obtain ⟨h1, h2, h3⟩ := place_of hp
  obtain ⟨a, a1, a2⟩ := h _ h2
  obtain ⟨b, b1, b2⟩ := k _ h2
  have hl := ho.loc _ h1
  rw [h3, a2 _ h1, b2 _ h1]
  exact a1.uniq b1 (by omega)
section
variable {z G : Nat → Int} {m : Nat}
theorem tab_zero (hg : Gph nb f n) (h : TabP (Col nb f n) z m G m) (ho : Opn f n z m) {i : Nat} (hi : i < m) : G (i * m + i) = 0 := by
  obtain ⟨d, d1, d2⟩ := h i hi
  have hl := ho.loc i hi
  rw [d2 i hi]
  exact d1.zero hg (by omega) hl.2.2
theorem tab_far (hg : Gph nb f n) (h : TabP (Col nb f n) z m G m) (ho : Opn f n z m) {i j : Nat} (hi : i < m) (hj : j < m) (hne : i ≠ j) : 1 ≤ G (i * m + j) := by
  obtain ⟨d, d1, d2⟩ := h j hj
  have hl := ho.loc i hi
  have hk := ho.loc j hj
  rw [d2 i hi]
  exact d1.far hg (by omega) hk.2.2 (by omega) (ho.ne hi hj hne)
theorem tab_bd (hg : Gph nb f n) (h : TabP (Col nb f n) z m G m) (ho : Opn f n z m) {i j : Nat} (hi : i < m) (hj : j < m) : 0 ≤ G (i * m + j) ∧ G (i * m + j) ≤ 1099511627776 := by
  obtain ⟨d, d1, d2⟩ := h j hj
  have hl := ho.loc i hi
  have hk := ho.loc j hj
  rw [d2 i hi]
  exact ⟨d1.pos hg (by omega) hk.2.2 (by omega), d1.sp.top _ (by omega)⟩
theorem tab_over (hg : Gph nb f n) (h : TabP (Col nb f n) z m G m) (ho : Opn f n z m) {i j k : Nat} (hi : i < m) (hj : j < m) (hk : k < m) : G (i * m + j) ≤ G (i * m + k) + G (k * m + j) := by
  obtain ⟨d, d1, d2⟩ := h j hj
  obtain ⟨e, e1, e2⟩ := h k hk
  have a := ho.loc i hi
  have b := ho.loc j hj
  have c := ho.loc k hk
  rw [d2 i hi, e2 i hi, d2 k hk]
  exact e1.over hg d1 (by omega) c.2.2 (by omega) b.2.2 (by omega)
theorem tab_turn (hg : Gph nb f n) (h : TabP (Col nb f n) z m G m) (ho : Opn f n z m) {i j : Nat} (hi : i < m) (hj : j < m) :
    (G (i * m + j) < 1099511627776 ∧ G (j * m + i) < 1099511627776 ∧ G (i * m + j) + f (z i).toNat = G (j * m + i) + f (z j).toNat) ∨ (G (i * m + j) = 1099511627776 ∧ G (j * m + i) = 1099511627776) := by
  obtain ⟨d, d1, d2⟩ := h j hj
  obtain ⟨e, e1, e2⟩ := h i hi
  have a := ho.loc i hi
  have b := ho.loc j hj
  rw [d2 i hi, e2 j hj]
  exact d1.turn hg e1 (by omega) (by omega)
end
end
end Go.Proofs.YtgbadbkipaccgaaGreat
