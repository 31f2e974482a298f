/- sweep.spread: the sweep from sorted seeds on. No condition. -/
import Derived.Test.YtgbadbkipaccgaaGreatBS1
import Derived.Test.YtgbadbkipaccgaaGreatBQ
import Derived.Test.YtgbadbkipaccgaaGreatBT
import Derived.Deep.CutRange
import Derived.Deep.RegionHeld3
import Derived.Laws.Bits64b
import Derived.Laws.CopyOwn
import Derived.Deep.LoopGhost
namespace Go.Proofs.YtgbadbkipaccgaaGreat
open Go.RowKit
set_option maxRecDepth 20000

/-- a way leads from c to a seed, and costs v with that seed's key -/
inductive Told (nb : Int → Int → Int) (f : Nat → Int) (n : Nat) (L : List Sd) : Nat → Int → Prop
  | seed (c : Nat) (x : Sd) : x ∈ L → x.1 = (c : Int) → Told nb f n L c x.2.2
  | step (c m : Nat) (s v : Int) : Told nb f n L m v → 0 ≤ s → s ≤ 3 → nb (c : Int) s = (m : Int) → c < n → m < n → f c ≠ 255 → f m ≠ 255 → Told nb f n L c (v + f m)
/-- what the cells beside each other are -/
structure Gph (nb : Int → Int → Int) (f : Nat → Int) (n : Nat) : Prop where
  sym : ∀ (c m : Nat) (s : Int), 0 ≤ s → s ≤ 3 → nb (c : Int) s = (m : Int) → c < n → m < n ∧ ∃ t : Int, 0 ≤ t ∧ t ≤ 3 ∧ nb (m : Int) t = (c : Int)
  cost : ∀ c, c < n → 1 ≤ f c ∧ f c ≤ 255
/-- seeds of open cells, with keys up to K -/
def Sds (f : Nat → Int) (n : Nat) (K : Int) (L : List Sd) : Prop := ∀ x, x ∈ L → ∃ c : Nat, x.1 = (c : Int) ∧ c < n ∧ f c ≠ 255 ∧ 0 ≤ x.2.2 ∧ x.2.2 ≤ K
section
variable {nb : Int → Int → Int} {f : Nat → Int} {n : Nat} {K : Int} {L : List Sd}
theorem Told.lt (hs : Sds f n K L) {c : Nat} {v : Int} (h : Told nb f n L c v) : c < n ∧ f c ≠ 255 := by
  cases h with
  | seed c x hx e =>
    obtain ⟨c', e', h1, h2, _⟩ := hs x hx
    obtain rfl : c = c' := by omega
    exact ⟨h1, h2⟩
  | step c m s v h h1 h2 h3 h4 h5 h6 h7 => exact ⟨h4, h6⟩
theorem Told.pos (hg : Gph nb f n) (hs : Sds f n K L) {c : Nat} {v : Int} (h : Told nb f n L c v) : 0 ≤ v := by
  induction h with
  | seed c x hx e =>
    obtain ⟨c', e', h1, h2, h3, h4⟩ := hs x hx
    exact h3
  | step c m s v h h1 h2 h3 h4 h5 h6 h7 ih => have := hg.cost m h5; omega
theorem Told.mono {M : List Sd} (hm : ∀ x, x ∈ L → x ∈ M) {c : Nat} {v : Int} (h : Told nb f n L c v) : Told nb f n M c v := by
  induction h with
  | seed c x hx e => exact .seed c x (hm x hx) e
  | step c m s v h h1 h2 h3 h4 h5 h6 h7 ih => exact .step c m s v ih h1 h2 h3 h4 h5 h6 h7
/-- d is how far each is -/
structure Sprd (nb : Int → Int → Int) (f : Nat → Int) (n : Nat) (L : List Sd) (d : Nat → Int) : Prop where
  low : ∀ c v, Told nb f n L c v → d c ≤ v
  top : ∀ c, c < n → d c ≤ 1099511627776
  is : ∀ c, c < n → d c < 1099511627776 → Told nb f n L c (d c)
theorem Sprd.of (hg : Gph nb f n) {d : Nat → Int} (top : ∀ c, c < n → d c ≤ 1099511627776) (is : ∀ c, c < n → d c < 1099511627776 → Told nb f n L c (d c))
    (hseed : ∀ x, x ∈ L → ∀ c : Nat, x.1 = (c : Int) → d c ≤ x.2.2)
    (hedge : ∀ (c m : Nat) (s : Int), c < n → m < n → 0 ≤ s → s ≤ 3 → nb (c : Int) s = (m : Int) → f c ≠ 255 → f m ≠ 255 → d m < 1099511627776 → d c ≤ d m + f m) : Sprd nb f n L d := by
  refine ⟨fun c v h => ?_, top, is⟩
  induction h with
  | seed c x hx e => exact hseed x hx c e
  | step c m s v h h1 h2 h3 h4 h5 h6 h7 ih =>
    have := hg.cost m h5
    by_cases k : d m < 1099511627776
    · have := hedge c m s h4 h5 h1 h2 h3 h6 h7 k
      omega
    · have := top c h4
      omega
theorem Sprd.uniq {d e : Nat → Int} (h : Sprd nb f n L d) (g : Sprd nb f n L e) {c : Nat} (hc : c < n) : d c = e c := by
  have a1 := h.top c hc
  have a2 := g.top c hc
  have b1 : e c < 1099511627776 → d c ≤ e c := fun k => h.low c _ (g.is c hc k)
  have b2 : d c < 1099511627776 → e c ≤ d c := fun k => g.low c _ (h.is c hc k)
  omega
theorem Sprd.congr {M : List Sd} {d : Nat → Int} (h : Sprd nb f n L d) (hm : ∀ x, x ∈ L ↔ x ∈ M) : Sprd nb f n M d :=
  ⟨fun c v k => h.low c v (k.mono fun x hx => (hm x).2 hx), h.top, fun c hc k => (h.is c hc k).mono fun x hx => (hm x).1 hx⟩
theorem Sprd.funs {d e : Nat → Int} (hs : Sds f n K L) (h : Sprd nb f n L d) (k : ∀ c, c < n → e c = d c) : Sprd nb f n L e :=
  ⟨fun c v q => by rw [k c (q.lt hs).1]; exact h.low c v q, fun c hc => by rw [k c hc]; exact h.top c hc, fun c hc q => by rw [k c hc] at q ⊢; exact h.is c hc q⟩
theorem Sprd.edge (hg : Gph nb f n) {d : Nat → Int} (h : Sprd nb f n L d) {c m : Nat} {s : Int} (hc : c < n) (s0 : 0 ≤ s) (s3 : s ≤ 3) (hn : nb (c : Int) s = (m : Int)) (h1 : f c ≠ 255) (h2 : f m ≠ 255) : d c ≤ d m + f m := by
  obtain ⟨hm, _⟩ := hg.sym c m s s0 s3 hn hc
  have := hg.cost m hm
  by_cases k : d m < 1099511627776
  · exact h.low c _ (.step c m s _ (h.is m hm k) s0 s3 hn hc hm h1 h2)
  · have := h.top c hc
    omega
theorem Sprd.wall (hs : Sds f n K L) {d : Nat → Int} (h : Sprd nb f n L d) {c : Nat} (hc : c < n) (hw : f c = 255) : d c = 1099511627776 := by
  have := h.top c hc
  by_cases k : d c < 1099511627776
  · exact absurd hw ((h.is c hc k).lt hs).2
  · omega
theorem Sprd.pos (hg : Gph nb f n) (hs : Sds f n K L) {d : Nat → Int} (h : Sprd nb f n L d) {c : Nat} (hc : c < n) : 0 ≤ d c := by
  by_cases k : d c < 1099511627776
  · exact (h.is c hc k).pos hg hs
  · omega
theorem Sprd.seed {d : Nat → Int} (h : Sprd nb f n L d) {x : Sd} (hx : x ∈ L) {c : Nat} (e : x.1 = (c : Int)) : d c ≤ x.2.2 := h.low c _ (.seed c x hx e)
/-- it is the least of what its seeds and the cells beside it say -/
theorem Sprd.fixed {d : Nat → Int} (h : Sprd nb f n L d) {c : Nat} (hc : c < n) {least : Int} (hd : d c ≤ least) (ht : least ≤ 1099511627776) (h1 : ∀ x, x ∈ L → x.1 = (c : Int) → least ≤ x.2.2)
    (h2 : ∀ (s : Int) (m : Nat), 0 ≤ s → s ≤ 3 → nb (c : Int) s = (m : Int) → m < n → f m ≠ 255 → least ≤ d m + f m) : d c = least := by
  by_cases k : d c < 1099511627776
  · have t := h.is c hc k
    have key : least ≤ d c := by
      generalize d c = z at t
      cases t with
      | seed c x hx e => exact h1 x hx e
      | step c m s v q a1 a2 a3 a4 a5 a6 a7 =>
        have := h2 s m a1 a2 a3 a5 a7
        have := h.low m v q
        omega
    omega
  · omega
/-- seeds in two parts -/
theorem told_app {A B : List Sd} {c : Nat} {v : Int} (h : Told nb f n (A ++ B) c v) : Told nb f n A c v ∨ Told nb f n B c v := by
  induction h with
  | seed c x hx e =>
    rcases List.mem_append.1 hx with hx | hx
    · exact .inl (.seed c x hx e)
    · exact .inr (.seed c x hx e)
  | step c m s v h h1 h2 h3 h4 h5 h6 h7 ih =>
    rcases ih with ih | ih
    · exact .inl (.step c m s v ih h1 h2 h3 h4 h5 h6 h7)
    · exact .inr (.step c m s v ih h1 h2 h3 h4 h5 h6 h7)
theorem sprd_parts {A B : List Sd} {d a b : Nat → Int} (h : Sprd nb f n (A ++ B) d) (ha : Sprd nb f n A a) (hb : Sprd nb f n B b) {c : Nat} (hc : c < n) : d c = min (a c) (b c) := by
  have a1 := h.top c hc
  have a2 := ha.top c hc
  have a3 := hb.top c hc
  have b2 : a c < 1099511627776 → d c ≤ a c := fun k => h.low c _ ((ha.is c hc k).mono fun x hx => List.mem_append_left _ hx)
  have b3 : b c < 1099511627776 → d c ≤ b c := fun k => h.low c _ ((hb.is c hc k).mono fun x hx => List.mem_append_right _ hx)
  have b1 : d c < 1099511627776 → a c ≤ d c ∨ b c ≤ d c := fun k => by
    rcases told_app (h.is c hc k) with q | q
    · exact .inl (ha.low c _ q)
    · exact .inr (hb.low c _ q)
  omega
/-- seeds that are all so much later -/
def latS (x : Int) (L : List Sd) : List Sd := L.map fun s => (s.1, s.2.1, s.2.2 + x)
theorem told_later {x : Int} {c : Nat} {v : Int} (h : Told nb f n L c v) : Told nb f n (latS x L) c (v + x) := by
  induction h with
  | seed c y hy e => exact .seed c (y.1, y.2.1, y.2.2 + x) (List.mem_map.2 ⟨y, hy, rfl⟩) e
  | step c m s v h h1 h2 h3 h4 h5 h6 h7 ih =>
    have := Told.step c m s _ ih h1 h2 h3 h4 h5 h6 h7
    rwa [show v + x + f m = v + f m + x by omega] at this
theorem told_back {x : Int} {c : Nat} {v : Int} (h : Told nb f n (latS x L) c v) : Told nb f n L c (v - x) := by
  induction h with
  | seed c y hy e =>
    obtain ⟨z, hz, rfl⟩ := List.mem_map.1 hy
    have := Told.seed (nb := nb) (f := f) (n := n) c z hz e
    simpa using this
  | step c m s v h h1 h2 h3 h4 h5 h6 h7 ih =>
    have := Told.step c m s _ ih h1 h2 h3 h4 h5 h6 h7
    rwa [show v - x + f m = v + f m - x by omega] at this
theorem sprd_later {x B : Int} {a b : Nat → Int} (ha : Sprd nb f n L a) (hb : Sprd nb f n (latS x L) b) {c : Nat} (hc : c < n) (hx : 0 ≤ x) (hB : a c < 1099511627776 → a c ≤ B) (hBx : B + x < 1099511627776) :
    (a c < 1099511627776 ∧ b c = a c + x) ∨ (a c = 1099511627776 ∧ b c = 1099511627776) := by
  have a1 := ha.top c hc
  have a2 := hb.top c hc
  have b1 : a c < 1099511627776 → b c ≤ a c + x := fun k => hb.low c _ (told_later (ha.is c hc k))
  have b2 : b c < 1099511627776 → a c ≤ b c - x := fun k => ha.low c _ (told_back (hb.is c hc k))
  omega

/-- how many are settled -/
def cntF (F : Nat → Int) : Nat → Nat
  | 0 => 0
  | n + 1 => cntF F n + if F n = 1099511627776 then 0 else 1
theorem cnt_le (F : Nat → Int) : ∀ n, cntF F n ≤ n
  | 0 => Nat.le_refl _
  | n + 1 => by
    have := cnt_le F n
    unfold cntF
    split <;> omega
theorem cnt_lt {F : Nat → Int} {c : Nat} (hF : F c = 1099511627776) : ∀ {n}, c < n → cntF F n < n
  | 0, h => absurd h (Nat.not_lt_zero _)
  | n + 1, h => by
    unfold cntF
    by_cases e : c = n
    · subst e
      rw [if_pos hF]
      have := cnt_le F c
      omega
    · have := cnt_lt hF (n := n) (by omega)
      split <;> omega
/-- c's is k -/
def upF (F : Nat → Int) (c : Nat) (k : Int) : Nat → Int := fun i => if i = c then k else F i
theorem upF_at (F : Nat → Int) (c : Nat) (k : Int) : upF F c k c = k := by simp [upF]
theorem upF_ne (F : Nat → Int) {c i : Nat} (k : Int) (h : i ≠ c) : upF F c k i = F i := by simp [upF, h]
theorem cnt_above (F : Nat → Int) (c : Nat) (k : Int) : ∀ n, n ≤ c → cntF (upF F c k) n = cntF F n
  | 0, _ => rfl
  | n + 1, h => by
    unfold cntF
    rw [cnt_above F c k n (by omega), upF_ne F k (by omega)]
theorem cnt_up {F : Nat → Int} {c : Nat} {k : Int} (hF : F c = 1099511627776) (hk : k ≠ 1099511627776) : ∀ {n}, c < n → cntF (upF F c k) n = cntF F n + 1
  | 0, h => absurd h (Nat.not_lt_zero _)
  | n + 1, h => by
    unfold cntF
    by_cases e : c = n
    · subst e
      rw [cnt_above F c k c (Nat.le_refl _), upF_at, if_pos hF, if_neg hk]
    · rw [cnt_up hF hk (n := n) (by omega), upF_ne F k (by omega)]
      omega
theorem cnt_none (n : Nat) : cntF (fun _ => 1099511627776) n = 0 := by
  induction n with
  | zero => rfl
  | succ n ih => unfold cntF; rw [ih]; simp

/-- a sweep under way: F is told, Q waits in a ring that begins at a, R is yet to enter; the sides of c0 from s0 on are yet to be looked at -/
structure Dk (nb : Int → Int → Int) (f : Nat → Int) (n : Nat) (L : List Sd) (K : Int) (F : Nat → Int) (a : Int) (Q : List (Int × Int)) (R : List Sd) (c0 : Nat) (s0 : Int) : Prop where
  hi : a ≤ K + 254 * (cntF F n : Int)
  far : ∀ c, c < n → F c = 1099511627776 ∨ (F c ≤ a ∧ F c ≤ K + 254 * 255 ∧ Told nb f n L c (F c))
  edge : ∀ (m c : Nat) (s : Int), m < n → c < n → 0 ≤ s → s ≤ 3 → nb (m : Int) s = (c : Int) → f c ≠ 255 → F m ≠ 1099511627776 → (m = c0 ∧ s0 ≤ s) ∨ F c ≤ F m + f m ∨ (F m + f m, (c : Int)) ∈ Q
  seed : ∀ x, x ∈ L → x ∈ R ∨ (x.2.2, x.1) ∈ Q ∨ ∀ c : Nat, x.1 = (c : Int) → F c ≤ x.2.2
  item : ∀ e, e ∈ Q → ∃ c : Nat, e.2 = (c : Int) ∧ c < n ∧ f c ≠ 255 ∧ Told nb f n L c e.1 ∧ e.1 ≤ K + 254 * (cntF F n : Int)
  rest : ∀ x, x ∈ R → x ∈ L ∧ a ≤ x.2.2
  rise : R.Pairwise fun x y => x.2.2 ≤ y.2.2
variable {F : Nat → Int} {a : Int} {Q : List (Int × Int)} {R : List Sd} {c0 : Nat} {s0 : Int}
theorem Dk.start (hK : 0 ≤ K) (hs : Sds f n K L) : Dk nb f n L K (fun _ => 1099511627776) 0 [] (srt L) 0 4 := by
  refine ⟨by rw [cnt_none]; omega, fun c _ => .inl rfl, fun m c s _ _ _ _ _ _ h => absurd rfl h, fun x hx => .inl ((srt_mem L x).2 hx), fun e he => absurd he List.not_mem_nil, fun x hx => ?_, ?_⟩
  · have hx := (srt_mem L x).1 hx
    obtain ⟨c, h1, h2, h3, h4, h5⟩ := hs x hx
    exact ⟨hx, h4⟩
  · refine (srt_rise L).imp fun {x y} h => ?_
    rw [ltS_iff] at h
    omega
theorem Dk.jump {x : Sd} (hs : Sds f n K L) (h : Dk nb f n L K F a [] (x :: R) c0 s0) : Dk nb f n L K F x.2.2 [] (x :: R) c0 s0 := by
  have hx := h.rest x (.head _)
  obtain ⟨c, h1, h2, h3, h4, h5⟩ := hs x hx.1
  refine ⟨by omega, fun c hc => ?_, h.edge, h.seed, h.item, fun y hy => ⟨(h.rest y hy).1, ?_⟩, h.rise⟩
  · rcases h.far c hc with k | ⟨k1, k2, k3⟩
    · exact .inl k
    · exact .inr ⟨by omega, k2, k3⟩
  · rcases List.mem_cons.1 hy with rfl | hy
    · exact Int.le_refl _
    · exact (List.pairwise_cons.1 h.rise).1 y hy
theorem Dk.enter {x : Sd} (hs : Sds f n K L) (h : Dk nb f n L K F a Q (x :: R) c0 s0) : Dk nb f n L K F a (Q ++ [(x.2.2, x.1)]) R c0 s0 := by
  have hx := (h.rest x (.head _)).1
  obtain ⟨c, h1, h2, h3, h4, h5⟩ := hs x hx
  refine ⟨h.hi, h.far, fun m c s a1 a2 a3 a4 a5 a6 a7 => ?_, fun y hy => ?_, fun e he => ?_, fun y hy => h.rest y (.tail _ hy), (List.pairwise_cons.1 h.rise).2⟩
  · rcases h.edge m c s a1 a2 a3 a4 a5 a6 a7 with k | k | k
    · exact .inl k
    · exact .inr (.inl k)
    · exact .inr (.inr (List.mem_append_left _ k))
  · rcases h.seed y hy with k | k | k
    · rcases List.mem_cons.1 k with rfl | k
      · exact .inr (.inl (List.mem_append_right _ (.head _)))
      · exact .inl k
    · exact .inr (.inl (List.mem_append_left _ k))
    · exact .inr (.inr k)
  · rcases List.mem_append.1 he with he | he
    · exact h.item e he
    · simp only [List.mem_singleton] at he
      subst he
      exact ⟨c, h1, h2, h3, .seed c x hx h1, by simp only; omega⟩
theorem mem_erase {L : List (Int × Int)} {m : Nat} {e x : Int × Int} (hm : L[m]? = some x) (h : e ∈ L) : e ∈ L.eraseIdx m ∨ e = x := by
  obtain ⟨h1, h2⟩ := erase_split L hm
  rw [h2]
  rw [h1] at h
  rcases List.mem_append.1 h with h | h
  · exact .inl (List.mem_append_left _ h)
  · rcases List.mem_cons.1 h with h | h
    · exact .inr h
    · exact .inl (List.mem_append_right _ h)
theorem Dk.popOld {m : Nat} {k : Int} {c : Nat} (h : Dk nb f n L K F a Q R c0 4) (hq : Near a Q) (hr : ∀ x, x ∈ R → k ≤ x.2.2) (hf : FirstMin Q m k (c : Int)) (hF : F c ≠ 1099511627776) : Dk nb f n L K F k (Q.eraseIdx m) R c0 4 := by
  have hak := (hq _ hf.mem).1
  simp only at hak
  obtain ⟨c', i1, i2, i3, i4, i5⟩ := h.item _ hf.mem
  simp only at i1 i4 i5
  obtain rfl : c = c' := by omega
  have hc : F c ≤ k := by
    rcases h.far c i2 with q | ⟨q, _⟩
    · exact absurd q hF
    · omega
  refine ⟨i5, fun c hc => ?_, fun m' d s a1 a2 a3 a4 a5 a6 a7 => ?_, fun x hx => ?_, fun e he => h.item e (List.mem_of_mem_eraseIdx he), fun x hx => ⟨(h.rest x hx).1, hr x hx⟩, h.rise⟩
  · rcases h.far c hc with q | ⟨q1, q2, q3⟩
    · exact .inl q
    · exact .inr ⟨by omega, q2, q3⟩
  · rcases h.edge m' d s a1 a2 a3 a4 a5 a6 a7 with q | q | q
    · exact .inl q
    · exact .inr (.inl q)
    · rcases mem_erase hf.1 q with q | q
      · exact .inr (.inr q)
      · simp only [Prod.mk.injEq] at q
        obtain rfl : d = c := by omega
        exact .inr (.inl (by omega))
  · rcases h.seed x hx with q | q | q
    · exact .inl q
    · rcases mem_erase hf.1 q with q | q
      · exact .inr (.inl q)
      · simp only [Prod.mk.injEq] at q
        refine .inr (.inr fun d hd => ?_)
        obtain rfl : d = c := by omega
        omega
    · exact .inr (.inr q)
theorem Dk.popNew {m : Nat} {k : Int} {c : Nat} (hn : n ≤ 256) (hK : K ≤ 1073741824) (h : Dk nb f n L K F a Q R c0 4) (hq : Near a Q) (hr : ∀ x, x ∈ R → k ≤ x.2.2) (hf : FirstMin Q m k (c : Int)) (hF : F c = 1099511627776) :
    Dk nb f n L K (upF F c k) k (Q.eraseIdx m) R c 0 ∧ k + 254 ≤ K + 254 * (cntF (upF F c k) n : Int) ∧ k ≤ K + 254 * 255 ∧ cntF (upF F c k) n = cntF F n + 1 ∧ c < n ∧ f c ≠ 255 := by
  have hak := (hq _ hf.mem).1
  simp only at hak
  obtain ⟨c', i1, i2, i3, i4, i5⟩ := h.item _ hf.mem
  simp only at i1 i4 i5
  obtain rfl : c = c' := by omega
  have hlt := cnt_lt hF i2
  have hk : k ≤ K + 254 * 255 := by omega
  have hcu := cnt_up (k := k) hF (by omega) i2
  have hup : ∀ d, d ≠ c → upF F c k d = F d := fun d hd => upF_ne F k hd
  have hle : ∀ d, d < n → upF F c k d ≤ F d := fun d hd => by
    by_cases e : d = c
    · subst e; rw [upF_at]; omega
    · rw [hup d e]; exact Int.le_refl _
  refine ⟨⟨by rw [hcu]; omega, fun d hd => ?_, fun m' d s a1 a2 a3 a4 a5 a6 a7 => ?_, fun x hx => ?_, fun e he => ?_, fun x hx => ⟨(h.rest x hx).1, hr x hx⟩, h.rise⟩, by rw [hcu]; omega, hk, hcu, i2, i3⟩
  · by_cases e : d = c
    · subst e
      rw [upF_at]
      exact .inr ⟨Int.le_refl _, hk, i4⟩
    · rw [hup d e]
      rcases h.far d hd with q | ⟨q1, q2, q3⟩
      · exact .inl q
      · exact .inr ⟨by omega, q2, q3⟩
  · by_cases e : m' = c
    · exact .inl ⟨e, a3⟩
    · rw [hup m' e] at a7 ⊢
      rcases h.edge m' d s a1 a2 a3 a4 a5 a6 a7 with q | q | q
      · omega
      · exact .inr (.inl (Int.le_trans (hle d a2) q))
      · rcases mem_erase hf.1 q with q | q
        · exact .inr (.inr q)
        · simp only [Prod.mk.injEq] at q
          obtain rfl : d = c := by omega
          exact .inr (.inl (by rw [upF_at]; omega))
  · rcases h.seed x hx with q | q | q
    · exact .inl q
    · rcases mem_erase hf.1 q with q | q
      · exact .inr (.inl q)
      · simp only [Prod.mk.injEq] at q
        refine .inr (.inr fun d hd => ?_)
        obtain rfl : d = c := by omega
        rw [upF_at]
        omega
    · refine .inr (.inr fun d hd => ?_)
      have := q d hd
      by_cases e : d = c
      · subst e; rw [upF_at]; omega
      · rw [hup d e]; exact this
  · obtain ⟨d, j1, j2, j3, j4, j5⟩ := h.item e (List.mem_of_mem_eraseIdx he)
    exact ⟨d, j1, j2, j3, j4, by rw [hcu]; omega⟩
theorem Dk.sideNo {c : Nat} {s : Int} (hg : Gph nb f n) (hcn : c < n) (h : Dk nb f n L K F a Q R c s) (hF : F c = a)
    (hno : ∀ b : Nat, b < n → nb (c : Int) s = (b : Int) → f b ≠ 255 → F b ≠ 1099511627776) : Dk nb f n L K F a Q R c (s + 1) := by
  refine ⟨h.hi, h.far, fun m d t a1 a2 a3 a4 a5 a6 a7 => ?_, h.seed, h.item, h.rest, h.rise⟩
  rcases h.edge m d t a1 a2 a3 a4 a5 a6 a7 with ⟨rfl, q⟩ | q | q
  · by_cases e : t = s
    · subst e
      have := hg.cost m hcn
      rcases h.far d a2 with z | ⟨z, _⟩
      · exact absurd z (hno d a2 a5 a6)
      · exact .inr (.inl (by omega))
    · exact .inl ⟨rfl, by omega⟩
  · exact .inr (.inl q)
  · exact .inr (.inr q)
theorem Dk.sidePut {c b : Nat} {s : Int} (hg : Gph nb f n) (hcn : c < n) (hco : f c ≠ 255) (h : Dk nb f n L K F a Q R c s) (hF : F c = a) (hai : a ≠ 1099511627776) (hk : a + 254 ≤ K + 254 * (cntF F n : Int)) (s0 : 0 ≤ s) (s3 : s ≤ 3)
    (hb : nb (c : Int) s = (b : Int)) (hbo : f b ≠ 255) : Dk nb f n L K F a (Q ++ [(a + f c, (b : Int))]) R c (s + 1) := by
  obtain ⟨hbn, t, t0, t3, ht⟩ := hg.sym c b s s0 s3 hb hcn
  have hcc := hg.cost c hcn
  refine ⟨h.hi, h.far, fun m d t a1 a2 a3 a4 a5 a6 a7 => ?_, fun x hx => ?_, fun e he => ?_, h.rest, h.rise⟩
  · rcases h.edge m d t a1 a2 a3 a4 a5 a6 a7 with ⟨rfl, q⟩ | q | q
    · by_cases e : t = s
      · subst e
        obtain rfl : d = b := by omega
        exact .inr (.inr (List.mem_append_right _ (by rw [hF]; exact .head _)))
      · exact .inl ⟨rfl, by omega⟩
    · exact .inr (.inl q)
    · exact .inr (.inr (List.mem_append_left _ q))
  · rcases h.seed x hx with q | q | q
    · exact .inl q
    · exact .inr (.inl (List.mem_append_left _ q))
    · exact .inr (.inr q)
  · rcases List.mem_append.1 he with he | he
    · exact h.item e he
    · simp only [List.mem_singleton] at he
      subst he
      rcases h.far c hcn with z | ⟨_, _, z⟩
      · rw [hF] at z; exact absurd z hai
      · rw [hF] at z
        exact ⟨b, rfl, hbn, hbo, .step b c t a z t0 t3 ht hbn hcn hbo hco, by simp only; omega⟩
theorem Dk.end (hg : Gph nb f n) (hK : K ≤ 1073741824) (h : Dk nb f n L K F a [] [] c0 4) : Sprd nb f n L F ∧ ∀ c, c < n → F c < 1099511627776 → F c ≤ K + 254 * 255 := by
  refine ⟨Sprd.of hg (fun c hc => ?_) (fun c hc k => ?_) (fun x hx c e => ?_) (fun c m s a1 a2 a3 a4 a5 a6 a7 a8 => ?_), fun c hc k => ?_⟩
  · rcases h.far c hc with q | ⟨q1, q2, q3⟩ <;> omega
  · rcases h.far c hc with q | ⟨q1, q2, q3⟩
    · omega
    · exact q3
  · rcases h.seed x hx with q | q | q
    · exact absurd q List.not_mem_nil
    · exact absurd q List.not_mem_nil
    · exact q c e
  · obtain ⟨_, t, t0, t3, ht⟩ := hg.sym c m s a3 a4 a5 a1
    rcases h.edge m c t a2 a1 t0 t3 ht a6 (by omega) with q | q | q
    · omega
    · exact q
    · exact absurd q List.not_mem_nil
  · rcases h.far c hc with q | ⟨q1, q2, q3⟩ <;> omega
end

/-- the row at block g: n integers, with room for c -/
def FarS (w : World) (g c n : Nat) (F : Nat → Int) : Prop := n ≤ c ∧ c ≤ maxLen ∧ ∃ vs : Nat → Value, w.rowIs g 3 c vs ∧ ∀ i, i < n → vs i = .int .i64 (F i)
theorem FarS.cell {w : World} {g c n : Nat} {F : Nat → Int} (h : FarS w g c n F) {i : Nat} (hi : i < n) : w.cell? ⟨g, i, none⟩ = some (.int .i64 (F i)) := by
  obtain ⟨h1, h2, vs, h3, h4⟩ := h
  rw [← h4 i hi]
  exact h3.cell (by omega)
theorem FarS.frozen {w : World} {g c n : Nat} {F : Nat → Int} (h : FarS w g c n F) (i : Nat) : w.frozen? ⟨g, i, none⟩ = false := by
  obtain ⟨h1, h2, vs, h3, h4⟩ := h
  exact h3.frozen i
theorem FarS.lt {w : World} {g c n : Nat} {F : Nat → Int} (h : FarS w g c n F) : g < w.heap.size := by
  obtain ⟨h1, h2, vs, h3, h4⟩ := h
  exact h3.lt
theorem FarS.kp {S : Nat → Prop} {w w' : World} {g c n : Nat} {F : Nat → Int} (h : FarS w g c n F) (k : Kp S w w') (hs : ¬ S g) : FarS w' g c n F := by
  obtain ⟨h1, h2, vs, h3, h4⟩ := h
  exact ⟨h1, h2, vs, k.row h3 hs, h4⟩
theorem FarS.gr {w w' : World} {g c n : Nat} {F : Nat → Int} (h : FarS w g c n F) (k : Gr w w') : FarS w' g c n F := h.kp (S := fun _ => False) k.kp id
theorem FarS.set {w : World} {g c n : Nat} {F : Nat → Int} (h : FarS w g c n F) (i : Nat) (k : Int) : FarS (w.setCell ⟨g, i, none⟩ (.int .i64 k)) g c n (upF F i k) := by
  obtain ⟨h1, h2, vs, h3, h4⟩ := h
  refine ⟨h1, h2, _, h3.set i _, fun j hj => ?_⟩
  by_cases e : j = i
  · subst e; simp [upF]
  · simp only [upF, if_neg e]; exact h4 j hj
theorem FarS.own {w : World} {g c n base : Nat} {F : Nat → Int} (h : FarS w g c n F) (hb : base ≤ g) : w.ownsRow base 3 1 (.slice (some ⟨g, 0, none⟩) n c) n (cel .i64 n F) := by
  obtain ⟨h1, h2, vs, ⟨cur, e1, e2, e3⟩, h4⟩ := h
  refine ⟨by simp [cel], .inr ⟨g, c, cur, rfl, hb, e1, h1, h2, by omega, ?_⟩⟩
  rw [Nat.mul_one]
  apply List.ext_getElem?
  intro t
  by_cases ht : t < n
  · rw [List.getElem?_take_of_lt ht, Array.getElem?_toList, e3 t (by omega), h4 t ht, cel_get _ _ _ ht]
  · rw [List.getElem?_take_eq_none (by omega), List.getElem?_eq_none (by rw [cel_len]; omega)]
theorem FarS.of_own {w : World} {base : Nat} {v : Value} {n : Nat} {F : Nat → Int} (h : w.ownsRow base 3 1 v n (cel .i64 n F)) (hn : 0 < n) : ∃ g c, v = .slice (some ⟨g, 0, none⟩) n c ∧ base ≤ g ∧ FarS w g c n F := by
  obtain ⟨_, ⟨_, h0⟩ | ⟨g, c, cur, e, hb, e1, h1, h2, e2, e3⟩⟩ := h
  · omega
  · refine ⟨g, c, e, hb, h1, h2, fun i => cur[i]!, ⟨cur, e1, by omega, fun i hi => ?_⟩, fun i hi => ?_⟩
    · show cur[i]? = some cur[i]!
      rw [getElem!_pos cur i (by omega)]
      exact Array.getElem?_eq_getElem (by omega)
    · have q : cur[i]? = some (.int .i64 (F i)) := by
        rw [← Array.getElem?_toList, ← List.getElem?_take_of_lt (l := cur.toList) (j := n * 1) (by omega), e3, cel_get _ _ _ hi]
      obtain ⟨a, b⟩ := Array.getElem?_eq_some_iff.1 q
      show cur[i]! = _
      rw [getElem!_pos cur i a, b]

/-- the row of distances at g, the ring at p; both above all that was there in w0; the ring apart from the blocks of X -/
structure Dj (w0 : World) (X : Nat → Prop) (u : World) (g cf n : Nat) (F : Nat → Int) (p : Nat) (a : Int) (Q : List (Int × Int)) : Prop where
  gr : Gr w0 u
  far : FarS u g cf n F
  ge : w0.heap.size ≤ g
  own : X g
  has : ∀ b, X b → b < u.heap.size
  ring : ∃ FP, Rg u p FP a Q ∧ ∀ b, FP b → w0.heap.size ≤ b ∧ ¬ X b
/-- nothing has turned but what the ring may write -/
abbrev Kr (w0 : World) (X : Nat → Prop) : World → World → Prop := Kp fun b => w0.heap.size ≤ b ∧ ¬ X b
section
variable {w0 u : World} {X : Nat → Prop} {g cf n : Nat} {F : Nat → Int} {p : Nat} {a : Int} {Q : List (Int × Int)}
theorem Dj.lo (h : Dj w0 X u g cf n F p a Q) : 0 ≤ a := by
  obtain ⟨FP, h1, h2⟩ := h.ring
  exact h1.lo
theorem Dj.near (h : Dj w0 X u g cf n F p a Q) : Near a Q := by
  obtain ⟨FP, h1, h2⟩ := h.ring
  exact h1.near
theorem Dj.grw {u' : World} (h : Dj w0 X u g cf n F p a Q) (k : Gr u u') : Dj w0 X u' g cf n F p a Q := by
  obtain ⟨FP, h1, h2⟩ := h.ring
  exact ⟨h.gr.trans k, h.far.gr k, h.ge, h.own, fun b hb => Nat.lt_of_lt_of_le (h.has b hb) k.size, FP, h1.gr k, h2⟩
theorem Dj.set (h : Dj w0 X u g cf n F p a Q) (i : Nat) (k : Int) : Dj w0 X (u.setCell ⟨g, i, none⟩ (.int .i64 k)) g cf n (upF F i k) p a Q := by
  obtain ⟨FP, h1, h2⟩ := h.ring
  exact ⟨h.gr.set h.ge _, h.far.set i k, h.ge, h.own, fun b hb => by simpa [World.setCell] using h.has b hb, FP, h1.kp (S := fun b => b = g) ((Kp.refl (fun b => b = g) u).set (p := ⟨g, i, none⟩) (.inl rfl) _) (fun b hb e => (h2 b hb).2 (e ▸ h.own)), h2⟩
theorem Dj.mono {Y : Nat → Prop} (h : Dj w0 X u g cf n F p a Q) (hy : ∀ b, Y b → X b) (ho : Y g) : Dj w0 Y u g cf n F p a Q := by
  obtain ⟨FP, h1, h2⟩ := h.ring
  exact ⟨h.gr, h.far, h.ge, ho, fun b hb => h.has b (hy b hb), FP, h1, fun b hb => ⟨(h2 b hb).1, fun q => (h2 b hb).2 (hy b q)⟩⟩
/-- what has been made since lies apart, too -/
theorem Dj.more {u' : World} {B : Nat} (h : Dj w0 X u g cf n F p a Q) (k : Gr u u') (h1 : u.heap.size ≤ B) (h2 : B < u'.heap.size) : Dj w0 (fun b => X b ∨ b = B) u' g cf n F p a Q := by
  obtain ⟨FP, h3, h4⟩ := h.ring
  refine ⟨h.gr.trans k, h.far.gr k, h.ge, .inl h.own, fun b hb => ?_, FP, h3.gr k, fun b hb => ⟨(h4 b hb).1, ?_⟩⟩
  · rcases hb with hb | hb
    · exact Nat.lt_of_lt_of_le (h.has b hb) k.size
    · omega
  · rintro (q | q)
    · exact (h4 b hb).2 q
    · have := h3.lt b hb
      omega
theorem Dj.put_of {FP FP' : Nat → Prop} {u' : World} {a' : Int} {Q' : List (Int × Int)} (h : Dj w0 X u g cf n F p a Q) (h2 : ∀ b, FP b → w0.heap.size ≤ b ∧ ¬ X b) (hr : Rg u' p FP' a' Q') (hf : ∀ b, FP' b → FP b ∨ u.heap.size ≤ b) (hk : Kp FP u u') :
    Dj w0 X u' g cf n F p a' Q' ∧ Kr w0 X u u' := by
  have hs := Below.size h.gr
  refine ⟨⟨hk.gr h.gr (fun b hb => (h2 b hb).1), h.far.kp hk (fun q => (h2 g q).2 h.own), h.ge, h.own, fun b hb => Nat.lt_of_lt_of_le (h.has b hb) hk.size, FP', hr, fun b hb => ?_⟩, hk.mono h2⟩
  rcases hf b hb with q | q
  · exact h2 b q
  · exact ⟨by omega, fun x => by have := h.has b x; omega⟩
theorem dput (h : Dj w0 X u g cf n F p a Q) (k x : Int) (hk1 : a ≤ k) (hk2 : k ≤ a + 255) (hL : Q.length ≤ 1000000) (ha : a ≤ 4611686018427387904) :
    Calls Tryz.prog 114 #[.pointer (some ⟨p, 0, none⟩), .int .i64 k, .int .i64 x] u fun e u' => e = .returned (.bool true) ∧ Dj w0 X u' g cf n F p a (Q ++ [(k, x)]) ∧ Kr w0 X u u' := by
  obtain ⟨FP, h1, h2⟩ := h.ring
  refine (qput_yes h1 k x hk1 hk2 hL ha).mono ?_
  rintro e w' ⟨rfl, ⟨FP', hr, hfp⟩, hk⟩
  exact ⟨rfl, h.put_of h2 hr hfp hk⟩
theorem dput_no (h : Dj w0 X u g cf n F p a Q) (k x : Int) (hk : k < a ∨ a + 255 < k) (hb : k ≤ 9223372036854775807) :
    Calls Tryz.prog 114 #[.pointer (some ⟨p, 0, none⟩), .int .i64 k, .int .i64 x] u fun e u' => e = .returned (.bool false) ∧ Dj w0 X u' g cf n F p a Q ∧ Kr w0 X u u' := by
  obtain ⟨FP, h1, h2⟩ := h.ring
  refine (qput_no h1 k x hk hb).mono ?_
  rintro e w' ⟨rfl, rfl⟩
  exact ⟨rfl, h, Kp.refl _ _⟩
theorem dpop (h : Dj w0 X u g cf n F p a Q) (ha : a ≤ 4611686018427387904) {m : Nat} {k x : Int} (hf : FirstMin Q m k x) (hL : Q.length ≤ 1000000) :
    Calls Tryz.prog 106 #[.pointer (some ⟨p, 0, none⟩)] u fun e u' => e = .returned (.tuple #[.int .i64 k, .int .i64 x, .bool true]) ∧ Dj w0 X u' g cf n F p k (Q.eraseIdx m) ∧ Kr w0 X u u' := by
  obtain ⟨FP, h1, h2⟩ := h.ring
  refine (qpop_yes h1 ha hf hL).mono ?_
  rintro e w' ⟨rfl, hr, hk⟩
  exact ⟨rfl, h.put_of h2 hr (fun b hb => .inl hb) hk⟩
theorem dpop_no (h : Dj w0 X u g cf n F p a []) :
    Calls Tryz.prog 106 #[.pointer (some ⟨p, 0, none⟩)] u fun e u' => e = .returned (.tuple #[.int .i64 0, .int .i64 0, .bool false]) ∧ u' = u := by
  obtain ⟨FP, h1, h2⟩ := h.ring
  exact qpop_no h1
theorem djump (h : Dj w0 X u g cf n F p a Q) (k : Int) (hk : a ≤ k) (hk2 : k ≤ 1099511627776) :
    Calls Tryz.prog 113 #[.pointer (some ⟨p, 0, none⟩), .int .i64 k] u fun e u' => (∃ b a', e = .returned (.bool b) ∧ Dj w0 X u' g cf n F p a' Q ∧ ((Q = [] ∧ a' = k) ∨ (Q ≠ [] ∧ a' = a))) ∧ Kr w0 X u u' := by
  obtain ⟨FP, h1, h2⟩ := h.ring
  by_cases hl : Q = []
  · subst hl
    refine (qjump_yes h1 k hk hk2).mono ?_
    rintro e w' ⟨rfl, hr, hk⟩
    have q := h.put_of h2 hr (fun b hb => .inl hb) hk
    exact ⟨⟨_, _, rfl, q.1, .inl ⟨rfl, rfl⟩⟩, q.2⟩
  · refine (qjump_full h1 k (List.length_pos_iff.2 hl)).mono ?_
    rintro e w' ⟨rfl, rfl⟩
    exact ⟨⟨_, _, rfl, h, .inr ⟨hl, rfl⟩⟩, Kp.refl _ _⟩
end
/-- a new ring beside the row -/
theorem dnew {w0 u : World} {g cf n : Nat} {F : Nat → Int} (hg : Gr w0 u) (hf : FarS u g cf n F) (hge : w0.heap.size ≤ g) :
    Calls Tryz.prog 104 #[.int .i64 0] u fun e u' => ∃ p, e = .returned (.pointer (some ⟨p, 0, none⟩)) ∧ Dj w0 (fun b => b = g) u' g cf n F p 0 [] := by
  refine (qnew_yes 0 u (by omega) (by omega)).mono ?_
  rintro e u' ⟨rfl, hr, _, hg'⟩
  have hs := Below.size hg
  have hlt := hf.lt
  refine ⟨_, rfl, hg.trans hg', hf.gr hg', hge, rfl, fun b hb => ?_, _, hr, fun b hb => ⟨?_, ?_⟩⟩
  · have := Below.size hg'
    omega
  · rw [hb]; omega
  · rw [hb]; omega

theorem back9 {s : Int} (a : 0 ≤ s) (b : s ≤ 3) : 0 ≤ backF s ∧ backF s ≤ 3 := by
  rcases (by omega : s = 0 ∨ s = 1 ∨ s = 2 ∨ s = 3) with rfl | rfl | rfl | rfl <;> decide
/-- the cells of a tile that may be -/
theorem gph_of {W H : Int} {n : Nat} {f : Nat → Int} (hm : mayTB W H n f = true) (hb : ∀ i, i < n → 0 ≤ f i ∧ f i ≤ 255) : Gph (nearF W H n f) f n := by
  obtain ⟨_, _, hn, h0⟩ := (mayTB_iff W H n f).1 hm
  refine ⟨fun c m s s0 s3 e hc => ?_, fun c hc => ?_⟩
  · have hl : isLocB W H n f (c : Int) = true := (isLocB_iff _ _ _ _ _).2 ⟨hm, by omega, by omega⟩
    have hcell := loc_cell hl
    have e1 : nearF W H n f c s = stepF W H c s := by simp [nearF, hl]
    rw [e1] at e
    have e0 : 0 ≤ stepF W H c s := by omega
    have hcell2 := step_cell hcell s0 (by omega) e0
    obtain ⟨_, q1, q2⟩ := (isCellB_iff _ _ _).1 hcell2
    have hmn : m < n := by omega
    have hl2 : isLocB W H n f (m : Int) = true := (isLocB_iff _ _ _ _ _).2 ⟨hm, by omega, by omega⟩
    have hb2 := back9 s0 s3
    refine ⟨hmn, backF s, hb2.1, hb2.2, ?_⟩
    have e2 : nearF W H n f m (backF s) = stepF W H m (backF s) := by simp [nearF, hl2]
    rw [e2, ← e]
    exact step_back hcell s0 s3 e0
  · have h1 := hb c hc
    have h2 := h0 c hc
    omega
theorem near_cases (W H : Int) (n : Nat) (f : Nat → Int) (l s : Int) : nearF W H n f l s < 0 ∨ ∃ b : Nat, nearF W H n f l s = (b : Int) := by
  by_cases h : nearF W H n f l s < 0
  · exact .inl h
  · exact .inr ⟨(nearF W H n f l s).toNat, by omega⟩

set_option maxHeartbeats 4000000 in
theorem reach_any {W H : Int} {al : Option Addr} {n cap : Nat} {f : Nat → Int} {w0 u : World} {X : Nat → Prop} {g cf : Nat} {F : Nat → Int} {p : Nat} {a : Int} {Q : List (Int × Int)} {R L : List Sd} {K : Int} {c : Nat}
    (h : Sl w0 al n f) (hm : mayTB W H n f = true) (hD : Dj w0 X u g cf n F p a Q) (hk : Dk (nearF W H n f) f n L K F a Q R c 0) (hF : F c = a) (hc : c < n) (hco : f c ≠ 255) (ha : a < 1000000000000) (hka : a + 254 ≤ K + 254 * (cntF F n : Int)) (hQ : Q.length ≤ 900000) :
    Calls Tryz.prog 107 #[.agg #[.int .i64 W, .int .i64 H, .slice al n cap], .slice (some ⟨g, 0, none⟩) n cf, .pointer (some ⟨p, 0, none⟩), .int .i64 c] u fun e u' => e = .returned (.tuple #[]) ∧ ∃ Q', Dj w0 X u' g cf n F p a Q' ∧ Dk (nearF W H n f) f n L K F a Q' R c 4 ∧ Q'.length ≤ Q.length + 4 := by
  have hgph := gph_of hm h.byte
  obtain ⟨hn1, hn2, _, _⟩ := mayTB_n hm
  obtain ⟨b, o, rfl, hb, hcell⟩ := h.at (by omega)
  have hlo := hD.lo
  have hD0 := hD.own
  have hcn : (c : Int) < (n : Int) := by omega
  have hfc := hgph.cost c hc
  obtain ⟨c1, c2, c3⟩ := tri_at u W H (.slice (some ⟨b, o, none⟩) n cap)
  have hg1 : Gr u (u.alloc (.cells #[.int .i64 W, .int .i64 H, .slice (some ⟨b, o, none⟩) n cap] 83)) := (Gr.refl u).alloc _
  have hD1 := hD.more hg1 (Nat.le_refl u.heap.size) (World.block_lt_of_cell? _ _ c1)
  obtain ⟨w1, hw1⟩ : ∃ w1, w1 = (u.alloc (.cells #[.int .i64 W, .int .i64 H, .slice (some ⟨b, o, none⟩) n cap] 83)) := ⟨_, rfl⟩
  rw [← hw1] at c1 c2 c3 hg1 hD1
  have x1 := hD1.far.cell hc
  rw [hF] at x1
  have x2 := cell_gr (hcell c hc) hD1.gr
  obtain ⟨v, hv⟩ : ∃ v, v = f c := ⟨_, rfl⟩
  rw [← hv] at x2
  have hsum : IntKind.i64.wrap (a + v) = a + v := wrapI (by omega)
  have hwv : IntKind.i64.wrap v = v := wrapI (by omega)
  have HF := hide hF
  have HV := hide hv
  clear hF hv
  go_enter Tryz.func107, Tryz.ntmps107
  go_upto_region 1 with fail
  rw [← hw1]
  clear hw1
  generalize u.heap.size = B0 at *
  go_quiet (fail)
  have gq : Gr w1 (w1.drewN nq) := (Gr.refl w1).drewN nq
  replace c1 := cell_gr c1 gq
  replace c2 := cell_gr c2 gq
  replace c3 := cell_gr c3 gq
  replace hD1 := hD1.grw gq
  clear x1 x2 hg1 gq hD hwv
  generalize (w1.drewN nq) = w2 at *
  go_wp2_with fail
  go_loopw [9] (fun s u' => ∃ (j : Nat) (Q' : List (Int × Int)), j ≤ 4 ∧ s = .int .i64 j ∧ Dj w0 (fun b => X b ∨ b = B0) u' g cf n F p a Q' ∧ Dk (nearF W H n f) f n L K F a Q' R c j ∧ Hid (Q'.length ≤ Q.length + j) ∧ u'.cell? ⟨B0, 0, none⟩ = some (.int .i64 W) ∧ u'.cell? ⟨B0, 1, none⟩ = some (.int .i64 H) ∧ u'.cell? ⟨B0, 2, none⟩ = some (.slice (some ⟨b, o, none⟩) n cap)) (fun s _ => 4 - (intOf s).toNat)
  case atStart => exact ⟨0, Q, by omega, rfl, hD1, hk, hide (by omega), c1, c2, c3⟩
  case round =>
    obtain ⟨j, Q', hj, rfl, hD', hk', HQ', d1, d2, d3⟩ := hrel
    generalize wr = w3 at *
    clear c1 c2 c3
    by_cases hj3 : j < 4
    · have hj3' : (j : Int) ≤ 3 := by omega
      have hj0 : (0 : Int) ≤ (j : Int) := by omega
      have hsl := h.gr hD'.gr
      go_wp2_with fail
      refine (tnear_any W H _ n cap f c j w3 hsl).mono ?_
      rintro e w4 ⟨rfl, hg4⟩
      replace d1 := cell_gr d1 hg4
      replace d2 := cell_gr d2 hg4
      replace d3 := cell_gr d3 hg4
      replace hD' := hD'.grw hg4
      clear hsl hg4
      rcases near_cases W H n f c j with hz | ⟨q, hz⟩
      · have HS : Hid (Dk (nearF W H n f) f n L K F a Q' R c ((j : Int) + 1)) := hide (hk'.sideNo hgph hc HF.out (fun q _ e _ => by omega))
        obtain ⟨z, hz2⟩ : ∃ z, z = nearF W H n f c j := ⟨_, rfl⟩
        rw [← hz2] at hz ⊢
        clear hz2
        have hz' : ¬ (0 : Int) ≤ z := by omega
        go_wp2_with fail
        go_roundw
        case rel => exact ⟨j + 1, Q', by omega, by go_num, hD', by exact_mod_cast HS.out, hide (by have := HQ'.out; omega), d1, d2, d3⟩
        case measure => simp [intOf]; omega
      · obtain ⟨hqn, _⟩ := hgph.sym c q j hj0 hj3' hz hc
        have hq0 : (0 : Int) ≤ (q : Int) := by omega
        have hqn' : (q : Int) < (n : Int) := by omega
        have y1 := cell_gr (hcell q hqn) hD'.gr
        have y2 := hD'.far.cell hqn
        rw [hz]
        have HZ := hide hz
        clear hz
        obtain ⟨v1, hv1⟩ : ∃ v1, v1 = f q := ⟨_, rfl⟩
        obtain ⟨v2, hv2⟩ : ∃ v2, v2 = F q := ⟨_, rfl⟩
        rw [← hv1] at y1
        rw [← hv2] at y2
        by_cases e1 : v1 = 255
        · have HS : Hid (Dk (nearF W H n f) f n L K F a Q' R c ((j : Int) + 1)) := hide (hk'.sideNo hgph hc HF.out (fun b' _ e e' => by
            have := HZ.out
            obtain rfl : b' = q := by omega
            exact absurd (hv1.symm.trans e1) e'))
          clear hv1 hv2
          subst e1
          go_wp2_with fail
          go_roundw
          case rel => exact ⟨j + 1, Q', by omega, by go_num, hD', by exact_mod_cast HS.out, hide (by have := HQ'.out; omega), d1, d2, d3⟩
          case measure => simp [intOf]; omega
        · by_cases e2 : v2 = 1099511627776
          · have HS : Hid (Dk (nearF W H n f) f n L K F a (Q' ++ [(a + v, (q : Int))]) R c ((j : Int) + 1)) := hide (by
              rw [HV.out]
              exact hk'.sidePut hgph hc hco HF.out (by omega) hka hj0 hj3' HZ.out (by rw [← hv1]; exact e1))
            clear hv1 hv2
            subst e2
            have hv0 : 0 ≤ v ∧ v ≤ 254 := by
              have := HV.out
              omega
            go_wp2_with fail
            refine (dput hD' (a + v) q (by omega) (by omega) (by have := HQ'.out; omega) (by omega)).mono ?_
            rintro e w5 ⟨rfl, hD5, hk5⟩
            have nB : ¬ (w0.heap.size ≤ B0 ∧ ¬ (X B0 ∨ B0 = B0)) := fun k => k.2 (.inr rfl)
            replace d1 := hk5.cell d1 nB
            replace d2 := hk5.cell d2 nB
            replace d3 := hk5.cell d3 nB
            go_wp2_with fail
            go_roundw
            case rel => exact ⟨j + 1, _, by omega, by go_num, hD5, by exact_mod_cast HS.out, hide (by have := HQ'.out; simp only [List.length_append, List.length_singleton]; omega), d1, d2, d3⟩
            case measure => simp [intOf]; omega
          · have HS : Hid (Dk (nearF W H n f) f n L K F a Q' R c ((j : Int) + 1)) := hide (hk'.sideNo hgph hc HF.out (fun b' _ e _ => by
              have := HZ.out
              obtain rfl : b' = q := by omega
              rw [← hv2]
              exact e2))
            clear hv1 hv2
            have e3 : (v2 == 1099511627776) = false := by simpa using e2
            go_wp2_with fail
            go_roundw
            case rel => exact ⟨j + 1, Q', by omega, by go_num, hD', by exact_mod_cast HS.out, hide (by have := HQ'.out; omega), d1, d2, d3⟩
            case measure => simp [intOf]; omega
    · obtain rfl : j = 4 := by omega
      have hD6 := hD'.mono (Y := X) (fun b hb => .inl hb) hD0
      go_wp2_with fail
      go_end0
      exact ⟨rfl, Q', hD6, by exact_mod_cast hk', by have := HQ'.out; omega⟩

def lenV : Value → Nat
  | .slice _ n _ => n
  | _ => 0
theorem SlS.tail {w : World} {b o n c : Nat} {x : Sd} {L : List Sd} (h : SlS w (some ⟨b, o, none⟩) n c (x :: L)) : SlS w (some ⟨b, if c = 1 then o else o + 3, none⟩) (n - 1) (c - 1) L := by
  obtain ⟨h1, h2, h3⟩ := h.len
  simp only [List.length_cons] at h1
  by_cases e : c = 1
  · rw [if_pos e]
    exact .inr ⟨_, rfl, by omega, by omega, by omega, .inl (by omega)⟩
  · rw [if_neg e]
    exact h.drop (m := 1) (by omega)

set_option maxHeartbeats 4000000 in
theorem enter_any {w0 u : World} {X : Nat → Prop} {g cf n : Nat} {F : Nat → Int} {p : Nat} {a : Int} {Q : List (Int × Int)} {R L : List Sd} {K : Int} {c0 : Nat} {nb : Int → Int → Int} {f : Nat → Int} {al : Option Addr} {m c : Nat}
    (hD : Dj w0 X u g cf n F p a Q) (hk : Dk nb f n L K F a Q R c0 4) (hs : Sds f n K L) (hK : K ≤ 1073741824) (hR : SlS w0 al m c R) (hlen : Q.length + m ≤ 900000) (ha : a ≤ 1000000000000) :
    Calls Tryz.prog 105 #[.pointer (some ⟨p, 0, none⟩), .slice al m c] u fun e u' => ∃ al' m' c' a' Q' R', e = .returned (.slice al' m' c') ∧ SlS w0 al' m' c' R' ∧ Dj w0 X u' g cf n F p a' Q' ∧ Dk nb f n L K F a' Q' R' c0 4 ∧ (∀ x, x ∈ R' → a' + 255 < x.2.2) ∧ Q'.length + m' = Q.length + m ∧ (Q' = [] → R' = []) := by
  have hml := hR.len.1
  cases R with
  | nil =>
    obtain rfl : m = 0 := by simpa using hml.symm
    go_enter Tryz.func105, Tryz.ntmps105
    go_wp2_with fail
    refine wp_loop_rounds 1 ?_
    rw [rounds_succ]
    go_upto_region 3 with fail
    go_quiet (fail)
    go_wp2_with fail
    go_ret
    exact ⟨al, 0, c, a, Q, [], rfl, hR, hD.grw ((Gr.refl _).drewN _), hk, fun x hx => absurd hx List.not_mem_nil, rfl, fun _ => rfl⟩
  | cons x R1 =>
    have hm0 : 0 < m := by simp only [List.length_cons] at hml; omega
    obtain ⟨b, o, rfl, hb, hcell⟩ := hR.at hm0
    obtain ⟨x1, x2, x3⟩ := hcell 0 hm0
    have ex : el (x :: R1) 0 = x := rfl
    rw [ex, Nat.zero_mul, Nat.add_zero] at x1 x2 x3
    have hrx := hk.rest x (.head _)
    have hx4 : 0 ≤ x.2.2 ∧ x.2.2 ≤ K := by
      obtain ⟨cx, hx1, hx2, hx3, hx4, hx5⟩ := hs x hrx.1
      exact ⟨hx4, hx5⟩
    have y3 := cell_gr x3 hD.gr
    have hm0' : (0 : Int) < (m : Int) := by omega
    go_enter Tryz.func105, Tryz.ntmps105
    go_wp2_with fail
    refine (djump hD x.2.2 hrx.2 (by omega)).mono ?_
    rintro e u1 ⟨⟨bj, a', rfl, hD1, hj⟩, hk1⟩
    have hk2 : Dk nb f n L K F a' Q (x :: R1) c0 4 := by
      rcases hj with ⟨rfl, rfl⟩ | ⟨_, rfl⟩
      · exact hk.jump hs
      · exact hk
    have ha' : a' ≤ 1000000000000 := by rcases hj with ⟨_, rfl⟩ | ⟨_, rfl⟩ <;> omega
    have HJ : Hid (Q = [] → ∀ y, (x :: R1).head? = some y → y.2.2 = a') := hide (fun e y hy => by
      rcases hj with ⟨_, rfl⟩ | ⟨h, _⟩
      · simp only [List.head?_cons, Option.some.injEq] at hy
        rw [hy]
      · exact absurd e h)
    clear hj hk1 hk hD y3 x1 x2 x3 ex hcell hb ha hml
    go_wp2_with fail
    go_loopw [1] (fun v u' => ∃ (b' o' m' c' : Nat) (Q' : List (Int × Int)) (R' : List Sd), v = .slice (some ⟨b', o', none⟩) m' c' ∧ SlS w0 (some ⟨b', o', none⟩) m' c' R' ∧ Dj w0 X u' g cf n F p a' Q' ∧ Dk nb f n L K F a' Q' R' c0 4 ∧ Hid (Q'.length + m' = Q.length + m) ∧ Hid (Q' = [] → ∀ y, R'.head? = some y → y.2.2 = a')) (fun v _ => lenV v)
    case atStart => exact ⟨b, o, m, c, Q, x :: R1, rfl, hR, hD1, hk2, hide rfl, HJ⟩
    case round =>
      obtain ⟨b', o', m', c', Q', R', rfl, hR', hD', hk', HL, HJ'⟩ := hrel
      generalize wr = w3 at *
      clear hR hk2 HJ
      cases R' with
      | nil =>
        obtain rfl : m' = 0 := by simpa using hR'.len.1.symm
        go_upto_region 3 with fail
        go_quiet (fail)
        go_wp2_with fail
        go_ret
        exact ⟨_, 0, c', a', Q', [], rfl, hR', hD'.grw ((Gr.refl _).drewN _), hk', fun x hx => absurd hx List.not_mem_nil, HL.out, fun _ => rfl⟩
      | cons y R2 =>
        have hl2 := hR'.len.2
        have hm1 : 0 < m' := by
          have := hR'.len.1
          simp only [List.length_cons] at this
          omega
        obtain ⟨b2, o2, e2, hb2, hcell2⟩ := hR'.at hm1
        cases e2
        obtain ⟨z1, z2, z3⟩ := hcell2 0 hm1
        rw [show el (y :: R2) 0 = y from rfl, Nat.zero_mul, Nat.add_zero] at z1 z2 z3
        have v1 := cell_gr z1 hD'.gr
        have v3 := cell_gr z3 hD'.gr
        have hry := hk'.rest y (.head _)
        have hy4 : 0 ≤ y.2.2 ∧ y.2.2 ≤ K := by
          obtain ⟨cx, hx1, hx2, hx3, hx4, hx5⟩ := hs y hry.1
          exact ⟨hx4, hx5⟩
        have hm2 : (0 : Int) < (m' : Int) := by omega
        clear hcell2 z2
        by_cases hput : y.2.2 ≤ a' + 255
        · have HK : Hid (Dk nb f n L K F a' (Q' ++ [(y.2.2, y.1)]) R2 c0 4) := hide (hk'.enter hs)
          go_upto_region 3 with fail
          go_region_held3 (fun v => v.cell? ⟨b', o', none⟩ = some (.int .i64 y.1) ∧ v.cell? ⟨b', o' + 2, none⟩ = some (.int .i64 y.2.2)) (first | exact ⟨v1, v3⟩ | exact ⟨cell_gr z1 hD5.gr, cell_gr z3 hD5.gr⟩) (first | (go_at_call 114; refine (dput (hD'.grw ((Gr.refl w3).drew)) y.2.2 y.1 hry.2 hput (by have := HL.out; omega) (by omega)).mono ?_; rintro e w5 ⟨rfl, hD5, hk5⟩))
          have HT : Hid (SlS w0 (some ⟨b', if c' = 1 then o' else o' + 3, none⟩) (m' - 1) (c' - 1) R2) := hide hR'.tail
          go_wp2_with fail
          go_roundw
          case rel => exact ⟨b', (if c' = 1 then o' else o' + 3), m' - 1, c' - 1, _, R2, (by split <;> rfl), HT.out, hD5, HK.out, hide (by have := HL.out; simp only [List.length_append, List.length_singleton]; omega), hide (fun e => absurd e (by simp))⟩
          case measure => simp [lenV]; omega
        · go_upto_region 3 with fail
          go_region_held3 (fun v => v.cell? ⟨b', o', none⟩ = some (.int .i64 y.1) ∧ v.cell? ⟨b', o' + 2, none⟩ = some (.int .i64 y.2.2)) (first | exact ⟨v1, v3⟩ | exact ⟨cell_gr z1 hD5.gr, cell_gr z3 hD5.gr⟩) (first | (go_at_call 114; refine (dput_no (hD'.grw ((Gr.refl w3).drew)) y.2.2 y.1 (.inr (by omega)) (by omega)).mono ?_; rintro e w5 ⟨rfl, hD5, hk5⟩))
          go_wp2_with fail
          go_ret
          refine ⟨_, m', c', a', Q', y :: R2, rfl, hR', hD5, hk', fun t ht => ?_, HL.out, fun e => ?_⟩
          · rcases List.mem_cons.1 ht with rfl | ht
            · omega
            · have := (List.pairwise_cons.1 hk'.rise).1 t ht
              omega
          · have := HJ'.out e y rfl
            omega

set_option maxHeartbeats 1000000 in
theorem xmul64_1 (y : Nat) (hy : y ≤ 256) (w : World) :
    Calls Tryz.prog 124 #[.int .u64 1, .int .u64 y] w fun e w' => e = .returned (.tuple #[.int .u64 0, .int .u64 y]) ∧ w' = w := by
  have m1 : bits .and .u64 1 4294967295 = 1 := by decide
  have m0 : bits .and .u64 0 4294967295 = 0 := by decide
  have m2 : bits .and .u64 (y : Int) 4294967295 = y := by
    have h := bits_and_u64_nat y 4294967295 (by omega) (by omega)
    have e : y &&& 4294967295 = y % 4294967296 := Nat.and_two_pow_sub_one_eq_mod y 32
    rw [e, Nat.mod_eq_of_lt (by omega)] at h
    exact h
  have d1 : (y : Int) / 4294967296 = 0 := by omega
  go_enter Tryz.func124, Tryz.ntmps124
  go_wp2
  go_ret2
  exact ⟨rfl, rfl⟩
set_option maxHeartbeats 1000000 in
theorem xmul_1 (y : Nat) (hy : y ≤ 256) (w : World) :
    Calls Tryz.prog 112 #[.int .u64 1, .int .u64 y] w fun e w' => e = .returned (.tuple #[.int .u64 0, .int .u64 y]) ∧ w' = w := by
  go_enter Tryz.func112, Tryz.ntmps112
  go_wp2_with (go_at_call 124; refine (xmul64_1 _ hy _).mono ?_; rintro e w1 ⟨rfl, hw1⟩; subst hw1)
  go_ret2
  exact ⟨rfl, rfl⟩
theorem xint_size : (Tryz.prog.info? 3).map (·.size) = some 1 := by kernel_rfl
theorem xtake_get {cu : List Value} {p : Nat} {v : Value} (h : cu.take p = List.replicate p v) {j : Nat} (hj : j < p) : cu[j]? = some v := by
  have := congrArg (fun l => l[j]?) h
  simp only [List.getElem?_take, hj, if_true, List.getElem?_replicate] at this
  exact this
theorem xtake_splice {cu : List Value} {p m : Nat} {v : Value} (h : cu.take p = List.replicate p v) : (splice cu p (List.replicate m v)).take (p + m) = List.replicate (p + m) v := by
  unfold splice
  rw [h, ← List.append_assoc, List.take_append_of_le_length (by simp), List.take_of_length_le (by simp), List.replicate_append_replicate]
theorem xrow_cell {w : World} {g : Nat} {cu : List Value} {t : TypeId} (h : w.heap[g]? = some (.cells cu.toArray t (0, 0))) (j : Nat) : w.cell? ⟨g, j, none⟩ = cu[j]? := by
  rw [cell_of_row w g j cu.toArray t (0, 0) h]
  simp
theorem xcopy_any {ty : TypeId} {w W : World} {g o1 dLen dCap b o sLen sCap m : Nat} {cu : List Value} {v : Value} (hrow : W.heap[g]? = some (.cells cu.toArray 3 (0, 0))) (hm : m = Nat.min sLen dLen) (hsrc : ∀ j, j < m → W.cell? ⟨b, o + j, none⟩ = some v) (hfit : o1 + m ≤ cu.length) (h1 : v.oneCell' = true) (hg : Gr w W) (hw : w.heap.size ≤ g) :
    ∃ W', (Builtin.copy_ #[31, 31] ty #[.slice (some ⟨g, o1, none⟩) dLen dCap, .slice (some ⟨b, o, none⟩) sLen sCap]).run Tryz.prog W = .ok (.int .i64 m) W' ∧ W'.heap[g]? = some (.cells (splice cu o1 (List.replicate m v)).toArray 3 (0, 0)) ∧ Gr w W' := by
  have hrun := run_copy_row (P := Tryz.prog) W 31 31 ty 3 g o1 dLen dCap ⟨b, o, none⟩ sLen sCap cu.toArray 3 (List.replicate m v) Tryz.underlying31 xint_size hrow (by rw [List.length_replicate]; exact hm)
    (by
      intro j u hj
      have hjm : j < m := by
        have := (List.getElem?_eq_some_iff.1 hj).1
        rwa [List.length_replicate] at this
      have e : (⟨b, o, none⟩ : Addr).add j = ⟨b, o + j, none⟩ := by unfold Addr.add; split <;> simp_all
      rw [List.getElem?_replicate, if_pos hjm] at hj
      rw [e, hsrc j hjm]
      exact hj) (by simpa using hfit) (fun u hu => by rw [(List.mem_replicate.1 hu).2]; exact h1)
  rw [List.length_replicate] at hrun
  refine ⟨W.setRow g (cu.toArray.toList.take o1 ++ List.replicate m v ++ cu.toArray.toList.drop (o1 + m)).toArray, hrun, ?_, below_setRow hg hw _⟩
  have := setRow_heap W g _ (cu.toArray.toList.take o1 ++ List.replicate m v ++ cu.toArray.toList.drop (o1 + m)).toArray 3 _ hrow
  simpa [splice] using this

set_option maxHeartbeats 4000000 in
theorem rep_any (b o cap : Nat) (x : Int) (c : Nat) (w : World) (hcell : w.cell? ⟨b, o, none⟩ = some (.int .i64 x)) (c1 : 1 ≤ c) (c2 : c ≤ 256) :
    Calls Tryz.prog 103 #[.slice (some ⟨b, o, none⟩) 1 cap, .int .i64 c] w fun e w' => (∃ g, e = .returned (.slice (some ⟨g, 0, none⟩) c c) ∧ w.heap.size ≤ g ∧ FarS w' g c c (fun _ => x)) ∧ Gr w w' := by
  have hmk := run_make_row' (P := Tryz.prog) 31 3 (.int .i64 0) 8 Tryz.underlying31 info_int rfl .i64 .i64 c (by omega) (by omega) w
  obtain ⟨w2, hw2⟩ : ∃ w2, w2 = w.alloc (.cells (madeCells #[.int .i64 0] c) 3) := ⟨_, rfl⟩
  obtain ⟨cur, hcur⟩ : ∃ cur : List Value, cur = (madeCells #[.int .i64 0] c).toList := ⟨_, rfl⟩
  have hg2 : Gr w w2 := hw2 ▸ (Gr.refl w).alloc _
  have hl : cur.length = c := by rw [hcur]; simp [madeCells]
  have hrow : w2.heap[w.heap.size]? = some (.cells cur.toArray 3 (0, 0)) := by rw [hw2, hcur]; exact Go.Deep.blk_alloc_new _ _
  rw [← hw2] at hmk
  obtain ⟨W3, hC, hrow3, hg3⟩ := xcopy_any (ty := 3) (dLen := c) (dCap := c) (b := b) (o := o) (sLen := 1) (sCap := cap) (m := 1) (o1 := 0) (v := .int .i64 x) hrow (Nat.min_eq_left c1).symm (fun j hj => by rw [show j = 0 by omega, Nat.add_zero]; exact cell_gr hcell hg2) (by omega) rfl hg2 (Nat.le_refl _)
  have hT : (splice cur 0 (List.replicate 1 (Value.int .i64 x))).take 1 = List.replicate 1 (Value.int .i64 x) := by
    have := xtake_splice (cu := cur) (p := 0) (m := 1) (v := .int .i64 x) (by simp)
    rwa [Nat.zero_add] at this
  have hL : (splice cur 0 (List.replicate 1 (Value.int .i64 x))).length = c := by rw [length_splice _ _ _ (by simp; omega)]; exact hl
  generalize splice cur 0 (List.replicate 1 (Value.int .i64 x)) = cu3 at *
  have HR3 := hide hrow3
  have HG3 := hide hg3
  have HT := hide hT
  have HL := hide hL
  clear hrow hg2 hrow3 hg3 hT hcur hl hw2 hL
  go_enter Tryz.func103, Tryz.ntmps103
  go_wp2_with (go_at_call 112; refine (xmul_1 _ c2 _).mono ?_; rintro e w1 ⟨rfl, hw1⟩; subst hw1)
  go_loopw [8] (fun s u => ∃ (p : Nat) (cu : List Value), 1 ≤ p ∧ p ≤ c ∧ s = .int .i64 p ∧ u.heap[w1.heap.size]? = some (.cells cu.toArray 3 (0, 0)) ∧ cu.length = c ∧ cu.take p = List.replicate p (.int .i64 x) ∧ Gr w1 u) (fun s _ => c - (intOf s).toNat)
  case atStart => exact ⟨1, cu3, Nat.le_refl _, c1, rfl, HR3.out, HL.out, HT.out, HG3.out⟩
  case round =>
    clear hmk hC
    obtain ⟨p, cu, p1, p2, rfl, hrow, hl, ht, hgr⟩ := hrel
    by_cases hlt : p < c
    · obtain ⟨m, hm⟩ : ∃ m, m = Nat.min p (c - p) := ⟨_, rfl⟩
      have hm2 : m ≤ p ∧ m ≤ c - p ∧ 1 ≤ m := by
        rw [hm]
        exact ⟨Nat.min_le_left _ _, Nat.min_le_right _ _, Nat.le_min.2 ⟨p1, by omega⟩⟩
      obtain ⟨W4, hC4, hrow4, hg4⟩ := xcopy_any (ty := 3) (dLen := c - p) (dCap := c - p) (b := w1.heap.size) (o := 0) (sLen := p) (sCap := c) (m := m) (o1 := p) (v := .int .i64 x) (W := wr.drew) hrow hm (fun j hj => by rw [Nat.zero_add, xrow_cell (w := wr.drew) hrow]; exact xtake_get ht (by omega)) (by omega) rfl hgr.drew (Nat.le_refl _)
      have HT4 := hide (xtake_splice (cu := cu) (p := p) (m := m) ht)
      have HL4 : Hid ((splice cu p (List.replicate m (Value.int .i64 x))).length = c) := hide (by rw [length_splice _ _ _ (by simp; omega)]; exact hl)
      have HR4 := hide hrow4
      have HG4 := hide hg4
      clear hrow4 hg4 hm hrow ht hl
      have p0 : 0 ≤ (p : Int) := by omega
      have pc : (p : Int) < c := by omega
      have hne : ¬ c = p := by omega
      go_wp2
      go_region
      go_wp2
      go_roundw
      case rel => exact ⟨p + m, _, by omega, by omega, by go_num, HR4.out, HL4.out, HT4.out, HG4.out⟩
      case measure => simp [intOf]; omega
    · have hpc : c = p := by omega
      subst hpc
      have HS : Hid (FarS wr w1.heap.size c c (fun _ => x)) := hide ⟨Nat.le_refl _, by unfold maxLen; omega, fun _ => .int .i64 x, ⟨cu.toArray, hrow, by simpa using hl, fun i hi => by simpa using xtake_get ht hi⟩, fun _ _ => rfl⟩
      clear hrow ht hl
      go_wp2
      go_ret
      exact ⟨⟨_, rfl, Nat.le_refl _, HS.out⟩, hgr⟩

set_option maxHeartbeats 4000000 in
theorem xspread_any {W H : Int} {al : Option Addr} {n cap : Nat} {f : Nat → Int} {bl : Option Addr} {m c : Nat} {L : List Sd} {K : Int} {w : World}
    (h : Sl w al n f) (hm : mayTB W H n f = true) (hR : SlS w bl m c (srt L)) (hs : Sds f n K L) (hK0 : 0 ≤ K) (hK : K ≤ 1073741824) (hm8 : m ≤ 800000) :
    Calls Tryz.prog 100 #[.agg #[.int .i64 W, .int .i64 H, .slice al n cap], .slice bl m c] w fun e w' => (∃ g cf F, e = .returned (.slice (some ⟨g, 0, none⟩) n cf) ∧ w.heap.size ≤ g ∧ FarS w' g cf n F ∧ Sprd (nearF W H n f) f n L F ∧ ∀ i, i < n → F i < 1099511627776 → F i ≤ K + 254 * 255) ∧ Gr w w' := by
  have hgph := gph_of hm h.byte
  have hn1 := (mayTB_n hm).1
  have hn2 := (mayTB_n hm).2.1
  obtain ⟨b, o, rfl, hb, hcell⟩ := h.at (by omega)
  obtain ⟨c1, c2, c3⟩ := tri_at w W H (.slice (some ⟨b, o, none⟩) n cap)
  have hg1 : Gr w (w.alloc (.cells #[.int .i64 W, .int .i64 H, .slice (some ⟨b, o, none⟩) n cap] 83)) := (Gr.refl w).alloc _
  obtain ⟨w1, hw1⟩ : ∃ w1, w1 = (w.alloc (.cells #[.int .i64 W, .int .i64 H, .slice (some ⟨b, o, none⟩) n cap] 83)) := ⟨_, rfl⟩
  rw [← hw1] at c1 c2 c3 hg1
  have hx := cell_new1 w1 (.int .i64 1099511627776) 3
  have hg2 : Gr w1 (w1.alloc (.cells #[.int .i64 1099511627776] 3)) := (Gr.refl w1).alloc _
  obtain ⟨w2, hw2⟩ : ∃ w2, w2 = (w1.alloc (.cells #[.int .i64 1099511627776] 3)) := ⟨_, rfl⟩
  rw [← hw2] at hx hg2
  have d0 := cell_gr c3 hg2
  have hs1 := h.gr hg1
  have hR1 := hR.gr hg1
  have hwg := Below.size hg1
  go_enter Tryz.func100, Tryz.ntmps100
  go_upto_region 1 with fail
  rw [← hw1]
  clear hw1
  generalize hB0 : w.heap.size = B0 at *
  rw [hw2] at d0
  go_wp2_with fail
  rw [← hw2] at d0 ⊢
  clear hw2
  refine (rep_any _ 0 1 1099511627776 n w2 hx hn1 hn2).mono ?_
  rintro e w3 ⟨⟨g, rfl, hge, hfar⟩, hg3⟩
  replace hge : w1.heap.size ≤ g := Nat.le_trans (Below.size hg2) hge
  replace hg3 := hg2.trans hg3
  clear hg2 hx d0
  go_wp2_with fail
  refine (dnew hg3 hfar hge).mono ?_
  rintro e w4 ⟨p, rfl, hD⟩
  clear hfar hg3
  go_wp2_with fail
  go_loopg [1] (m + 5 * n) (fun k v u => ∃ (bl' : Option Addr) (m' c' : Nat) (a : Int) (Q : List (Int × Int)) (R : List Sd) (F : Nat → Int) (c0 : Nat), v = .slice bl' m' c' ∧ SlS w1 bl' m' c' R ∧ Dj w1 (fun b => b = g) u g n n F p a Q ∧ Dk (nearF W H n f) f n L K F a Q R c0 4 ∧ Hid (Q.length + m' + 5 * (n - cntF F n) ≤ k ∧ k ≤ m + 5 * n))
  case atStart => exact ⟨bl, m, c, 0, [], srt L, _, 0, rfl, hR1, hD, Dk.start hK0 hs, hide (by rw [cnt_none]; simp)⟩
  case round =>
    obtain ⟨bl', m', c', a, Q, R, F, c0, rfl, hR', hD', hk, HM⟩ := hrel
    generalize wr = w5 at *
    clear hR hR1 hD
    have hcl := cnt_le F n
    have hhi := hk.hi
    go_wp2_with fail
    refine (enter_any hD' hk hs hK hR' (by have := HM.out; omega) (by omega)).mono ?_
    clear hR' hk hhi hD'
    rintro e u1 ⟨al', m1, cc1, a1, Q1, R1, rfl, hR', hD', hk, hfar1, hlen, hemp⟩
    have HL := hide hlen
    have HE := hide hemp
    have hhi := hk.hi
    clear hlen hemp
    by_cases hQ1 : Q1 = []
    · subst hQ1
      have hR1 := HE.out rfl
      subst hR1
      obtain ⟨hsp, hbd⟩ := hk.end hgph hK
      have HS := hide hsp
      have HB := hide hbd
      clear hsp hbd hk
      go_wp2_with fail
      refine (dpop_no hD').mono ?_
      rintro e u2 ⟨rfl, hu2⟩
      subst hu2
      go_wp2_with fail
      go_ret
      exact ⟨⟨g, n, F, rfl, by omega, hD'.far, HS.out, HB.out⟩, hg1.trans hD'.gr⟩
    · obtain ⟨i, k, x, hf⟩ := exists_first Q1 hQ1
      obtain ⟨ci, hci, hcn, hco, hct, hcb⟩ := hk.item _ hf.mem
      simp only at hci
      subst hci
      have hnr := hD'.near _ hf.mem
      simp only at hnr
      have hkr : ∀ x, x ∈ R1 → k ≤ x.2.2 := fun y hy => by have := hfar1 y hy; omega
      have hle := erase_len hf
      have hqp : 0 < Q1.length := List.length_pos_iff.2 hQ1
      have hnear := hD'.near
      have hcn' : (ci : Int) < (n : Int) := by omega
      have hci0 : (0 : Int) ≤ (ci : Int) := by omega
      clear hfar1 hct hcb
      go_wp2_with fail
      refine (dpop hD' (by omega) hf (by have := HM.out; have := HL.out; omega)).mono ?_
      clear hD'
      rintro e u2 ⟨rfl, hD', _⟩
      have y1 := hD'.far.cell hcn
      have y2 := hD'.far.frozen ci
      by_cases hFi : F ci = 1099511627776
      · obtain ⟨hk2, hka, hkb, hcu, _, _⟩ := hk.popNew hn2 hK hnear hkr hf hFi
        have hlt := cnt_lt hFi hcn
        rw [hFi] at y1
        have HF := hide hFi
        have HCU := hide hcu
        have HLE := hide hle
        clear hFi hcu hle
        have hD3 := hD'.set ci k
        have d1 := cell_gr c1 hD3.gr
        have d2 := cell_gr c2 hD3.gr
        have d3 := cell_gr c3 hD3.gr
        obtain ⟨u3, hu3⟩ : ∃ u3, u3 = u2.setCell ⟨g, ci, none⟩ (.int .i64 k) := ⟨_, rfl⟩
        rw [← hu3] at hD3 d1 d2 d3
        go_upto_region 9 with fail
        rw [← hu3]
        clear hu3 y1 y2 hD'
        have hsl := hs1.gr hD3.gr
        go_wp2_with fail
        refine (reach_any hs1 hm hD3 hk2 (upF_at F ci k) hcn hco (by omega) hka (by have := HM.out; have := HL.out; have := HLE.out; omega)).mono ?_
        rintro e u4 ⟨rfl, Q2, hD4, hk4, hl4⟩
        have HL4 := hide hl4
        clear hl4
        go_wp2_with fail
        go_roundg (gk - 1)
        case measure => have := HM.out; have := HL.out; omega
        case rel => exact ⟨al', m1, cc1, k, Q2, R1, upF F ci k, ci, rfl, hR', hD4, hk4, hide (by have := HM.out; have := HL.out; have := HL4.out; have := HLE.out; have := HCU.out; omega)⟩
      · have hk2 := hk.popOld hnear hkr hf hFi
        have e3 : (F ci == 1099511627776) = false := by simpa using hFi
        obtain ⟨v2, hv2⟩ : ∃ v2, v2 = F ci := ⟨_, rfl⟩
        rw [← hv2] at y1 e3
        have HLE := hide hle
        clear hFi hle hv2
        go_wp2_with fail
        go_roundg (gk - 1)
        case measure => have := HM.out; have := HL.out; omega
        case rel => exact ⟨al', m1, cc1, k, _, R1, F, c0, rfl, hR', hD', hk2, hide (by have := HM.out; have := HL.out; have := HLE.out; omega)⟩

end Go.Proofs.YtgbadbkipaccgaaGreat
