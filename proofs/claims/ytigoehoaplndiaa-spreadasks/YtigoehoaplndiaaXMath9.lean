/- Distances: what ways there are, what the least of them is; the state of a sweep that settles the nearest first. Numbers alone. No condition. -/
import Derived.Test.YtigoehoaplndiaaSMath8
import Derived.Test.YtigoehoaplndiaaQMath
namespace Go.Proofs.Ytigoehoaplndiaa

/-- a way leads from c to a seed, and costs v with that seed's key -/
inductive Told (nb : Int → Int → Int) (f : Nat → Int) (n : Nat) (L : List Sd) : Nat → Int → Prop
  | seed (c : Nat) (x : Sd) : x ∈ L → x.1 = (c : Int) → Told nb f n L c x.2.2
  | step (c m : Nat) (s v : Int) : Told nb f n L m v → 0 ≤ s → s ≤ 3 → nb (c : Int) s = (m : Int) → c < n → m < n → f c ≠ 255 → f m ≠ 255 → Told nb f n L c (v + f m)
/-- what the cells beside each other are -/
structure Gph (nb : Int → Int → Int) (f : Nat → Int) (n : Nat) : Prop where
  sym : ∀ (c m : Nat) (s : Int), 0 ≤ s → s ≤ 3 → nb (c : Int) s = (m : Int) → c < n → m < n ∧ ∃ t : Int, 0 ≤ t ∧ t ≤ 3 ∧ nb (m : Int) t = (c : Int)
  cost : ∀ c, c < n → 1 ≤ f c ∧ f c ≤ 255
/-- seeds of open cells, with keys up to K -/
def Sds (f : Nat → Int) (n : Nat) (K : Int) (L : List Sd) : Prop := ∀ x, x ∈ L → ∃ c : Nat, x.1 = (c : Int) ∧ c < n ∧ f c ≠ 255 ∧ 0 ≤ x.2.2 ∧ x.2.2 ≤ K
section
variable {nb : Int → Int → Int} {f : Nat → Int} {n : Nat} {K : Int} {L : List Sd}
theorem Told.lt (hs : Sds f n K L) {c : Nat} {v : Int} (h : Told nb f n L c v) : c < n ∧ f c ≠ 255 := by
  cases h with
  | seed c x hx e =>
    obtain ⟨c', e', h1, h2, _⟩ := hs x hx
    obtain rfl : c = c' := by omega
    exact ⟨h1, h2⟩
  | step c m s v h h1 h2 h3 h4 h5 h6 h7 => exact ⟨h4, h6⟩
theorem Told.pos (hg : Gph nb f n) (hs : Sds f n K L) {c : Nat} {v : Int} (h : Told nb f n L c v) : 0 ≤ v := by
  induction h with
  | seed c x hx e =>
    obtain ⟨c', e', h1, h2, h3, h4⟩ := hs x hx
    exact h3
  | step c m s v h h1 h2 h3 h4 h5 h6 h7 ih => have := hg.cost m h5; omega
theorem Told.mono {M : List Sd} (hm : ∀ x, x ∈ L → x ∈ M) {c : Nat} {v : Int} (h : Told nb f n L c v) : Told nb f n M c v := by
  induction h with
  | seed c x hx e => exact .seed c x (hm x hx) e
  | step c m s v h h1 h2 h3 h4 h5 h6 h7 ih => exact .step c m s v ih h1 h2 h3 h4 h5 h6 h7
/-- d is how far each is -/
structure Sprd (nb : Int → Int → Int) (f : Nat → Int) (n : Nat) (L : List Sd) (d : Nat → Int) : Prop where
  low : ∀ c v, Told nb f n L c v → d c ≤ v
  top : ∀ c, c < n → d c ≤ 1099511627776
  is : ∀ c, c < n → d c < 1099511627776 → Told nb f n L c (d c)
theorem Sprd.of (hg : Gph nb f n) {d : Nat → Int} (top : ∀ c, c < n → d c ≤ 1099511627776) (is : ∀ c, c < n → d c < 1099511627776 → Told nb f n L c (d c))
    (hseed : ∀ x, x ∈ L → ∀ c : Nat, x.1 = (c : Int) → d c ≤ x.2.2)
    (hedge : ∀ (c m : Nat) (s : Int), c < n → m < n → 0 ≤ s → s ≤ 3 → nb (c : Int) s = (m : Int) → f c ≠ 255 → f m ≠ 255 → d m < 1099511627776 → d c ≤ d m + f m) : Sprd nb f n L d := by
  refine ⟨fun c v h => ?_, top, is⟩
  induction h with
  | seed c x hx e => exact hseed x hx c e
  | step c m s v h h1 h2 h3 h4 h5 h6 h7 ih =>
    have := hg.cost m h5
    by_cases k : d m < 1099511627776
    · have := hedge c m s h4 h5 h1 h2 h3 h6 h7 k
      omega
    · have := top c h4
      omega
theorem Sprd.uniq {d e : Nat → Int} (h : Sprd nb f n L d) (g : Sprd nb f n L e) {c : Nat} (hc : c < n) : d c = e c := by
  have a1 := h.top c hc
  have a2 := g.top c hc
  have b1 : e c < 1099511627776 → d c ≤ e c := fun k => h.low c _ (g.is c hc k)
  have b2 : d c < 1099511627776 → e c ≤ d c := fun k => g.low c _ (h.is c hc k)
  omega
theorem Sprd.congr {M : List Sd} {d : Nat → Int} (h : Sprd nb f n L d) (hm : ∀ x, x ∈ L ↔ x ∈ M) : Sprd nb f n M d :=
  ⟨fun c v k => h.low c v (k.mono fun x hx => (hm x).2 hx), h.top, fun c hc k => (h.is c hc k).mono fun x hx => (hm x).1 hx⟩
theorem Sprd.funs {d e : Nat → Int} (hs : Sds f n K L) (h : Sprd nb f n L d) (k : ∀ c, c < n → e c = d c) : Sprd nb f n L e :=
  ⟨fun c v q => by rw [k c (q.lt hs).1]; exact h.low c v q, fun c hc => by rw [k c hc]; exact h.top c hc, fun c hc q => by rw [k c hc] at q ⊢; exact h.is c hc q⟩
theorem Sprd.edge (hg : Gph nb f n) {d : Nat → Int} (h : Sprd nb f n L d) {c m : Nat} {s : Int} (hc : c < n) (s0 : 0 ≤ s) (s3 : s ≤ 3) (hn : nb (c : Int) s = (m : Int)) (h1 : f c ≠ 255) (h2 : f m ≠ 255) : d c ≤ d m + f m := by
  obtain ⟨hm, _⟩ := hg.sym c m s s0 s3 hn hc
  have := hg.cost m hm
  by_cases k : d m < 1099511627776
  · exact h.low c _ (.step c m s _ (h.is m hm k) s0 s3 hn hc hm h1 h2)
  · have := h.top c hc
    omega
theorem Sprd.wall (hs : Sds f n K L) {d : Nat → Int} (h : Sprd nb f n L d) {c : Nat} (hc : c < n) (hw : f c = 255) : d c = 1099511627776 := by
  have := h.top c hc
  by_cases k : d c < 1099511627776
  · exact absurd hw ((h.is c hc k).lt hs).2
  · omega
theorem Sprd.pos (hg : Gph nb f n) (hs : Sds f n K L) {d : Nat → Int} (h : Sprd nb f n L d) {c : Nat} (hc : c < n) : 0 ≤ d c := by
  by_cases k : d c < 1099511627776
  · exact (h.is c hc k).pos hg hs
  · omega
theorem Sprd.seed {d : Nat → Int} (h : Sprd nb f n L d) {x : Sd} (hx : x ∈ L) {c : Nat} (e : x.1 = (c : Int)) : d c ≤ x.2.2 := h.low c _ (.seed c x hx e)
/-- it is the least of what its seeds and the cells beside it say -/
theorem Sprd.fixed {d : Nat → Int} (h : Sprd nb f n L d) {c : Nat} (hc : c < n) {least : Int} (hd : d c ≤ least) (ht : least ≤ 1099511627776) (h1 : ∀ x, x ∈ L → x.1 = (c : Int) → least ≤ x.2.2)
    (h2 : ∀ (s : Int) (m : Nat), 0 ≤ s → s ≤ 3 → nb (c : Int) s = (m : Int) → m < n → f m ≠ 255 → least ≤ d m + f m) : d c = least := by
  by_cases k : d c < 1099511627776
  · have t := h.is c hc k
    have key : least ≤ d c := by
      generalize d c = z at t
      cases t with
      | seed c x hx e => exact h1 x hx e
      | step c m s v q a1 a2 a3 a4 a5 a6 a7 =>
        have := h2 s m a1 a2 a3 a5 a7
        have := h.low m v q
        omega
    omega
  · omega
/-- seeds in two parts -/
theorem told_app {A B : List Sd} {c : Nat} {v : Int} (h : Told nb f n (A ++ B) c v) : Told nb f n A c v ∨ Told nb f n B c v := by
  induction h with
  | seed c x hx e =>
    rcases List.mem_append.1 hx with hx | hx
    · exact .inl (.seed c x hx e)
    · exact .inr (.seed c x hx e)
  | step c m s v h h1 h2 h3 h4 h5 h6 h7 ih =>
    rcases ih with ih | ih
    · exact .inl (.step c m s v ih h1 h2 h3 h4 h5 h6 h7)
    · exact .inr (.step c m s v ih h1 h2 h3 h4 h5 h6 h7)
theorem sprd_parts {A B : List Sd} {d a b : Nat → Int} (h : Sprd nb f n (A ++ B) d) (ha : Sprd nb f n A a) (hb : Sprd nb f n B b) {c : Nat} (hc : c < n) : d c = min (a c) (b c) := by
  have a1 := h.top c hc
  have a2 := ha.top c hc
  have a3 := hb.top c hc
  have b2 : a c < 1099511627776 → d c ≤ a c := fun k => h.low c _ ((ha.is c hc k).mono fun x hx => List.mem_append_left _ hx)
  have b3 : b c < 1099511627776 → d c ≤ b c := fun k => h.low c _ ((hb.is c hc k).mono fun x hx => List.mem_append_right _ hx)
  have b1 : d c < 1099511627776 → a c ≤ d c ∨ b c ≤ d c := fun k => by
    rcases told_app (h.is c hc k) with q | q
    · exact .inl (ha.low c _ q)
    · exact .inr (hb.low c _ q)
  omega
/-- seeds that are all so much later -/
def latS (x : Int) (L : List Sd) : List Sd := L.map fun s => (s.1, s.2.1, s.2.2 + x)
theorem told_later {x : Int} {c : Nat} {v : Int} (h : Told nb f n L c v) : Told nb f n (latS x L) c (v + x) := by
  induction h with
  | seed c y hy e => exact .seed c (y.1, y.2.1, y.2.2 + x) (List.mem_map.2 ⟨y, hy, rfl⟩) e
  | step c m s v h h1 h2 h3 h4 h5 h6 h7 ih =>
    have := Told.step c m s _ ih h1 h2 h3 h4 h5 h6 h7
    rwa [show v + x + f m = v + f m + x by omega] at this
theorem told_back {x : Int} {c : Nat} {v : Int} (h : Told nb f n (latS x L) c v) : Told nb f n L c (v - x) := by
  induction h with
  | seed c y hy e =>
    obtain ⟨z, hz, rfl⟩ := List.mem_map.1 hy
    have := Told.seed (nb := nb) (f := f) (n := n) c z hz e
    simpa using this
  | step c m s v h h1 h2 h3 h4 h5 h6 h7 ih =>
    have := Told.step c m s _ ih h1 h2 h3 h4 h5 h6 h7
    rwa [show v - x + f m = v + f m - x by omega] at this
theorem sprd_later {x B : Int} {a b : Nat → Int} (ha : Sprd nb f n L a) (hb : Sprd nb f n (latS x L) b) {c : Nat} (hc : c < n) (hx : 0 ≤ x) (hB : a c < 1099511627776 → a c ≤ B) (hBx : B + x < 1099511627776) :
    (a c < 1099511627776 ∧ b c = a c + x) ∨ (a c = 1099511627776 ∧ b c = 1099511627776) := by
  have a1 := ha.top c hc
  have a2 := hb.top c hc
  have b1 : a c < 1099511627776 → b c ≤ a c + x := fun k => hb.low c _ (told_later (ha.is c hc k))
  have b2 : b c < 1099511627776 → a c ≤ b c - x := fun k => ha.low c _ (told_back (hb.is c hc k))
  omega

/-- how many are settled -/
def cntF (F : Nat → Int) : Nat → Nat
  | 0 => 0
  | n + 1 => cntF F n + if F n = 1099511627776 then 0 else 1
theorem cnt_le (F : Nat → Int) : ∀ n, cntF F n ≤ n
  | 0 => Nat.le_refl _
  | n + 1 => by
    have := cnt_le F n
    unfold cntF
    split <;> omega
theorem cnt_lt {F : Nat → Int} {c : Nat} (hF : F c = 1099511627776) : ∀ {n}, c < n → cntF F n < n
  | 0, h => absurd h (Nat.not_lt_zero _)
  | n + 1, h => by
    unfold cntF
    by_cases e : c = n
    · subst e
      rw [if_pos hF]
      have := cnt_le F c
      omega
    · have := cnt_lt hF (n := n) (by omega)
      split <;> omega
/-- c's is k -/
def upF (F : Nat → Int) (c : Nat) (k : Int) : Nat → Int := fun i => if i = c then k else F i
theorem upF_at (F : Nat → Int) (c : Nat) (k : Int) : upF F c k c = k := by simp [upF]
theorem upF_ne (F : Nat → Int) {c i : Nat} (k : Int) (h : i ≠ c) : upF F c k i = F i := by simp [upF, h]
theorem cnt_above (F : Nat → Int) (c : Nat) (k : Int) : ∀ n, n ≤ c → cntF (upF F c k) n = cntF F n
  | 0, _ => rfl
  | n + 1, h => by
    unfold cntF
    rw [cnt_above F c k n (by omega), upF_ne F k (by omega)]
theorem cnt_up {F : Nat → Int} {c : Nat} {k : Int} (hF : F c = 1099511627776) (hk : k ≠ 1099511627776) : ∀ {n}, c < n → cntF (upF F c k) n = cntF F n + 1
  | 0, h => absurd h (Nat.not_lt_zero _)
  | n + 1, h => by
    unfold cntF
    by_cases e : c = n
    · subst e
      rw [cnt_above F c k c (Nat.le_refl _), upF_at, if_pos hF, if_neg hk]
    · rw [cnt_up hF hk (n := n) (by omega), upF_ne F k (by omega)]
      omega
theorem cnt_none (n : Nat) : cntF (fun _ => 1099511627776) n = 0 := by
  induction n with
  | zero => rfl
  | succ n ih => unfold cntF; rw [ih]; simp

/-- a sweep under way: F is told, Q waits in a ring that begins at a, R is yet to enter; the sides of c0 from s0 on are yet to be looked at -/
structure Dk (nb : Int → Int → Int) (f : Nat → Int) (n : Nat) (L : List Sd) (K : Int) (F : Nat → Int) (a : Int) (Q : List (Int × Int)) (R : List Sd) (c0 : Nat) (s0 : Int) : Prop where
  hi : a ≤ K + 254 * (cntF F n : Int)
  far : ∀ c, c < n → F c = 1099511627776 ∨ (F c ≤ a ∧ F c ≤ K + 254 * 255 ∧ Told nb f n L c (F c))
  edge : ∀ (m c : Nat) (s : Int), m < n → c < n → 0 ≤ s → s ≤ 3 → nb (m : Int) s = (c : Int) → f c ≠ 255 → F m ≠ 1099511627776 → (m = c0 ∧ s0 ≤ s) ∨ F c ≤ F m + f m ∨ (F m + f m, (c : Int)) ∈ Q
  seed : ∀ x, x ∈ L → x ∈ R ∨ (x.2.2, x.1) ∈ Q ∨ ∀ c : Nat, x.1 = (c : Int) → F c ≤ x.2.2
  item : ∀ e, e ∈ Q → ∃ c : Nat, e.2 = (c : Int) ∧ c < n ∧ f c ≠ 255 ∧ Told nb f n L c e.1 ∧ e.1 ≤ K + 254 * (cntF F n : Int)
  rest : ∀ x, x ∈ R → x ∈ L ∧ a ≤ x.2.2
  rise : R.Pairwise fun x y => x.2.2 ≤ y.2.2
variable {F : Nat → Int} {a : Int} {Q : List (Int × Int)} {R : List Sd} {c0 : Nat} {s0 : Int}
theorem Dk.start (hK : 0 ≤ K) (hs : Sds f n K L) : Dk nb f n L K (fun _ => 1099511627776) 0 [] (srt L) 0 4 := by
  refine ⟨by rw [cnt_none]; omega, fun c _ => .inl rfl, fun m c s _ _ _ _ _ _ h => absurd rfl h, fun x hx => .inl ((srt_mem L x).2 hx), fun e he => absurd he List.not_mem_nil, fun x hx => ?_, ?_⟩
  · have hx := (srt_mem L x).1 hx
    obtain ⟨c, h1, h2, h3, h4, h5⟩ := hs x hx
    exact ⟨hx, h4⟩
  · refine (srt_rise L).imp fun {x y} h => ?_
    rw [ltS_iff] at h
    omega
theorem Dk.jump {x : Sd} (hs : Sds f n K L) (h : Dk nb f n L K F a [] (x :: R) c0 s0) : Dk nb f n L K F x.2.2 [] (x :: R) c0 s0 := by
  have hx := h.rest x (.head _)
  obtain ⟨c, h1, h2, h3, h4, h5⟩ := hs x hx.1
  refine ⟨by omega, fun c hc => ?_, h.edge, h.seed, h.item, fun y hy => ⟨(h.rest y hy).1, ?_⟩, h.rise⟩
  · rcases h.far c hc with k | ⟨k1, k2, k3⟩
    · exact .inl k
    · exact .inr ⟨by omega, k2, k3⟩
  · rcases List.mem_cons.1 hy with rfl | hy
    · exact Int.le_refl _
    · exact (List.pairwise_cons.1 h.rise).1 y hy
theorem Dk.enter {x : Sd} (hs : Sds f n K L) (h : Dk nb f n L K F a Q (x :: R) c0 s0) : Dk nb f n L K F a (Q ++ [(x.2.2, x.1)]) R c0 s0 := by
  have hx := (h.rest x (.head _)).1
  obtain ⟨c, h1, h2, h3, h4, h5⟩ := hs x hx
  refine ⟨h.hi, h.far, fun m c s a1 a2 a3 a4 a5 a6 a7 => ?_, fun y hy => ?_, fun e he => ?_, fun y hy => h.rest y (.tail _ hy), (List.pairwise_cons.1 h.rise).2⟩
  · rcases h.edge m c s a1 a2 a3 a4 a5 a6 a7 with k | k | k
    · exact .inl k
    · exact .inr (.inl k)
    · exact .inr (.inr (List.mem_append_left _ k))
  · rcases h.seed y hy with k | k | k
    · rcases List.mem_cons.1 k with rfl | k
      · exact .inr (.inl (List.mem_append_right _ (.head _)))
      · exact .inl k
    · exact .inr (.inl (List.mem_append_left _ k))
    · exact .inr (.inr k)
  · rcases List.mem_append.1 he with he | he
    · exact h.item e he
    · simp only [List.mem_singleton] at he
      subst he
      exact ⟨c, h1, h2, h3, .seed c x hx h1, by simp only; omega⟩
theorem mem_erase {L : List (Int × Int)} {m : Nat} {e x : Int × Int} (hm : L[m]? = some x) (h : e ∈ L) : e ∈ L.eraseIdx m ∨ e = x := by
  obtain ⟨h1, h2⟩ := erase_split L hm
  rw [h2]
  rw [h1] at h
  rcases List.mem_append.1 h with h | h
  · exact .inl (List.mem_append_left _ h)
  · rcases List.mem_cons.1 h with h | h
    · exact .inr h
    · exact .inl (List.mem_append_right _ h)
theorem Dk.popOld {m : Nat} {k : Int} {c : Nat} (h : Dk nb f n L K F a Q R c0 4) (hq : Near a Q) (hr : ∀ x, x ∈ R → k ≤ x.2.2) (hf : FirstMin Q m k (c : Int)) (hF : F c ≠ 1099511627776) : Dk nb f n L K F k (Q.eraseIdx m) R c0 4 := by
  have hak := (hq _ hf.mem).1
  simp only at hak
  obtain ⟨c', i1, i2, i3, i4, i5⟩ := h.item _ hf.mem
  simp only at i1 i4 i5
  obtain rfl : c = c' := by omega
  have hc : F c ≤ k := by
    rcases h.far c i2 with q | ⟨q, _⟩
    · exact absurd q hF
    · omega
  refine ⟨i5, fun c hc => ?_, fun m' d s a1 a2 a3 a4 a5 a6 a7 => ?_, fun x hx => ?_, fun e he => h.item e (List.mem_of_mem_eraseIdx he), fun x hx => ⟨(h.rest x hx).1, hr x hx⟩, h.rise⟩
  · rcases h.far c hc with q | ⟨q1, q2, q3⟩
    · exact .inl q
    · exact .inr ⟨by omega, q2, q3⟩
  · rcases h.edge m' d s a1 a2 a3 a4 a5 a6 a7 with q | q | q
    · exact .inl q
    · exact .inr (.inl q)
    · rcases mem_erase hf.1 q with q | q
      · exact .inr (.inr q)
      · simp only [Prod.mk.injEq] at q
        obtain rfl : d = c := by omega
        exact .inr (.inl (by omega))
  · rcases h.seed x hx with q | q | q
    · exact .inl q
    · rcases mem_erase hf.1 q with q | q
      · exact .inr (.inl q)
      · simp only [Prod.mk.injEq] at q
        refine .inr (.inr fun d hd => ?_)
        obtain rfl : d = c := by omega
        omega
    · exact .inr (.inr q)
theorem Dk.popNew {m : Nat} {k : Int} {c : Nat} (hn : n ≤ 256) (hK : K ≤ 1073741824) (h : Dk nb f n L K F a Q R c0 4) (hq : Near a Q) (hr : ∀ x, x ∈ R → k ≤ x.2.2) (hf : FirstMin Q m k (c : Int)) (hF : F c = 1099511627776) :
    Dk nb f n L K (upF F c k) k (Q.eraseIdx m) R c 0 ∧ k + 254 ≤ K + 254 * (cntF (upF F c k) n : Int) ∧ k ≤ K + 254 * 255 ∧ cntF (upF F c k) n = cntF F n + 1 ∧ c < n ∧ f c ≠ 255 := by
  have hak := (hq _ hf.mem).1
  simp only at hak
  obtain ⟨c', i1, i2, i3, i4, i5⟩ := h.item _ hf.mem
  simp only at i1 i4 i5
  obtain rfl : c = c' := by omega
  have hlt := cnt_lt hF i2
  have hk : k ≤ K + 254 * 255 := by omega
  have hcu := cnt_up (k := k) hF (by omega) i2
  have hup : ∀ d, d ≠ c → upF F c k d = F d := fun d hd => upF_ne F k hd
  have hle : ∀ d, d < n → upF F c k d ≤ F d := fun d hd => by
    by_cases e : d = c
    · subst e; rw [upF_at]; omega
    · rw [hup d e]; exact Int.le_refl _
  refine ⟨⟨by rw [hcu]; omega, fun d hd => ?_, fun m' d s a1 a2 a3 a4 a5 a6 a7 => ?_, fun x hx => ?_, fun e he => ?_, fun x hx => ⟨(h.rest x hx).1, hr x hx⟩, h.rise⟩, by rw [hcu]; omega, hk, hcu, i2, i3⟩
  · by_cases e : d = c
    · subst e
      rw [upF_at]
      exact .inr ⟨Int.le_refl _, hk, i4⟩
    · rw [hup d e]
      rcases h.far d hd with q | ⟨q1, q2, q3⟩
      · exact .inl q
      · exact .inr ⟨by omega, q2, q3⟩
  · by_cases e : m' = c
    · exact .inl ⟨e, a3⟩
    · rw [hup m' e] at a7 ⊢
      rcases h.edge m' d s a1 a2 a3 a4 a5 a6 a7 with q | q | q
      · omega
      · exact .inr (.inl (Int.le_trans (hle d a2) q))
      · rcases mem_erase hf.1 q with q | q
        · exact .inr (.inr q)
        · simp only [Prod.mk.injEq] at q
          obtain rfl : d = c := by omega
          exact .inr (.inl (by rw [upF_at]; omega))
  · rcases h.seed x hx with q | q | q
    · exact .inl q
    · rcases mem_erase hf.1 q with q | q
      · exact .inr (.inl q)
      · simp only [Prod.mk.injEq] at q
        refine .inr (.inr fun d hd => ?_)
        obtain rfl : d = c := by omega
        rw [upF_at]
        omega
    · refine .inr (.inr fun d hd => ?_)
      have := q d hd
      by_cases e : d = c
      · subst e; rw [upF_at]; omega
      · rw [hup d e]; exact this
  · obtain ⟨d, j1, j2, j3, j4, j5⟩ := h.item e (List.mem_of_mem_eraseIdx he)
    exact ⟨d, j1, j2, j3, j4, by rw [hcu]; omega⟩
theorem Dk.sideNo {c : Nat} {s : Int} (hg : Gph nb f n) (hcn : c < n) (h : Dk nb f n L K F a Q R c s) (hF : F c = a)
    (hno : ∀ b : Nat, b < n → nb (c : Int) s = (b : Int) → f b ≠ 255 → F b ≠ 1099511627776) : Dk nb f n L K F a Q R c (s + 1) := by
  refine ⟨h.hi, h.far, fun m d t a1 a2 a3 a4 a5 a6 a7 => ?_, h.seed, h.item, h.rest, h.rise⟩
  rcases h.edge m d t a1 a2 a3 a4 a5 a6 a7 with ⟨rfl, q⟩ | q | q
  · by_cases e : t = s
    · subst e
      have := hg.cost m hcn
      rcases h.far d a2 with z | ⟨z, _⟩
      · exact absurd z (hno d a2 a5 a6)
      · exact .inr (.inl (by omega))
    · exact .inl ⟨rfl, by omega⟩
  · exact .inr (.inl q)
  · exact .inr (.inr q)
theorem Dk.sidePut {c b : Nat} {s : Int} (hg : Gph nb f n) (hcn : c < n) (hco : f c ≠ 255) (h : Dk nb f n L K F a Q R c s) (hF : F c = a) (hai : a ≠ 1099511627776) (hk : a + 254 ≤ K + 254 * (cntF F n : Int)) (s0 : 0 ≤ s) (s3 : s ≤ 3)
    (hb : nb (c : Int) s = (b : Int)) (hbo : f b ≠ 255) : Dk nb f n L K F a (Q ++ [(a + f c, (b : Int))]) R c (s + 1) := by
  obtain ⟨hbn, t, t0, t3, ht⟩ := hg.sym c b s s0 s3 hb hcn
  have hcc := hg.cost c hcn
  refine ⟨h.hi, h.far, fun m d t a1 a2 a3 a4 a5 a6 a7 => ?_, fun x hx => ?_, fun e he => ?_, h.rest, h.rise⟩
  · rcases h.edge m d t a1 a2 a3 a4 a5 a6 a7 with ⟨rfl, q⟩ | q | q
    · by_cases e : t = s
      · subst e
        obtain rfl : d = b := by omega
        exact .inr (.inr (List.mem_append_right _ (by rw [hF]; exact .head _)))
      · exact .inl ⟨rfl, by omega⟩
    · exact .inr (.inl q)
    · exact .inr (.inr (List.mem_append_left _ q))
  · rcases h.seed x hx with q | q | q
    · exact .inl q
    · exact .inr (.inl (List.mem_append_left _ q))
    · exact .inr (.inr q)
  · rcases List.mem_append.1 he with he | he
    · exact h.item e he
    · simp only [List.mem_singleton] at he
      subst he
      rcases h.far c hcn with z | ⟨_, _, z⟩
      · rw [hF] at z; exact absurd z hai
      · rw [hF] at z
        exact ⟨b, rfl, hbn, hbo, .step b c t a z t0 t3 ht hbn hcn hbo hco, by simp only; omega⟩
theorem Dk.end (hg : Gph nb f n) (hK : K ≤ 1073741824) (h : Dk nb f n L K F a [] [] c0 4) : Sprd nb f n L F ∧ ∀ c, c < n → F c < 1099511627776 → F c ≤ K + 254 * 255 := by
  refine ⟨Sprd.of hg (fun c hc => ?_) (fun c hc k => ?_) (fun x hx c e => ?_) (fun c m s a1 a2 a3 a4 a5 a6 a7 a8 => ?_), fun c hc k => ?_⟩
  · rcases h.far c hc with q | ⟨q1, q2, q3⟩ <;> omega
  · rcases h.far c hc with q | ⟨q1, q2, q3⟩
    · omega
    · exact q3
  · rcases h.seed x hx with q | q | q
    · exact absurd q List.not_mem_nil
    · exact absurd q List.not_mem_nil
    · exact q c e
  · obtain ⟨_, t, t0, t3, ht⟩ := hg.sym c m s a3 a4 a5 a1
    rcases h.edge m c t a2 a1 t0 t3 ht a6 (by omega) with q | q | q
    · omega
    · exact q
    · exact absurd q List.not_mem_nil
  · rcases h.far c hc with q | ⟨q1, q2, q3⟩ <;> omega
end
end Go.Proofs.Ytigoehoaplndiaa
