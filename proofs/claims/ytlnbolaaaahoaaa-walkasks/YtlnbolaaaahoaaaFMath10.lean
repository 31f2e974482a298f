/- Directions: which of them a distance comes about by, the first one; a walk that goes by them. Numbers alone. No condition. -/
import Derived.Test.YtlnbolaaaahoaaaBX1
import Derived.Test.YtlnbolaaaahoaaaBM
namespace Go.Proofs.Ytlnbolaaaahoaaa

/-- where a direction leads: -1 out of the tile, and at Here -/
def nxF (nb : Int → Int → Int) (c d : Int) : Int := if d = 4 then -1 else nb c d
/-- how far the goal is by a direction -/
def goF (nb : Int → Int → Int) (f : Nat → Int) (F : Nat → Int) (L : List Sd) (c d : Int) : Int :=
  if nxF nb c d < 0 then (bst INF c d L).1 else F (nxF nb c d).toNat + f (nxF nb c d).toNat
/-- the first one by which the distance comes about -/
def dirF (nb : Int → Int → Int) (f : Nat → Int) (F : Nat → Int) (L : List Sd) (c : Nat) : Int :=
  if F c = 1099511627776 then 5 else if goF nb f F L c 4 = F c then 4 else if goF nb f F L c 0 = F c then 0 else if goF nb f F L c 1 = F c then 1
  else if goF nb f F L c 2 = F c then 2 else if goF nb f F L c 3 = F c then 3 else 5
theorem dirF_cases (nb : Int → Int → Int) (f : Nat → Int) (F : Nat → Int) (L : List Sd) (c : Nat) :
    (F c = 1099511627776 ∧ dirF nb f F L c = 5) ∨ (F c ≠ 1099511627776 ∧ goF nb f F L c 4 = F c ∧ dirF nb f F L c = 4)
    ∨ (F c ≠ 1099511627776 ∧ goF nb f F L c 4 ≠ F c ∧ goF nb f F L c 0 = F c ∧ dirF nb f F L c = 0)
    ∨ (F c ≠ 1099511627776 ∧ goF nb f F L c 4 ≠ F c ∧ goF nb f F L c 0 ≠ F c ∧ goF nb f F L c 1 = F c ∧ dirF nb f F L c = 1)
    ∨ (F c ≠ 1099511627776 ∧ goF nb f F L c 4 ≠ F c ∧ goF nb f F L c 0 ≠ F c ∧ goF nb f F L c 1 ≠ F c ∧ goF nb f F L c 2 = F c ∧ dirF nb f F L c = 2)
    ∨ (F c ≠ 1099511627776 ∧ goF nb f F L c 4 ≠ F c ∧ goF nb f F L c 0 ≠ F c ∧ goF nb f F L c 1 ≠ F c ∧ goF nb f F L c 2 ≠ F c ∧ goF nb f F L c 3 = F c ∧ dirF nb f F L c = 3)
    ∨ (F c ≠ 1099511627776 ∧ goF nb f F L c 4 ≠ F c ∧ goF nb f F L c 0 ≠ F c ∧ goF nb f F L c 1 ≠ F c ∧ goF nb f F L c 2 ≠ F c ∧ goF nb f F L c 3 ≠ F c ∧ dirF nb f F L c = 5) := by
  unfold dirF
  repeat' split
  all_goals simp_all
theorem dirF_bd (nb : Int → Int → Int) (f : Nat → Int) (F : Nat → Int) (L : List Sd) (c : Nat) : 0 ≤ dirF nb f F L c ∧ dirF nb f F L c ≤ 5 := by
  rcases dirF_cases nb f F L c with h | h | h | h | h | h | h <;> omega
/-- the seeds' sides lead out, or are Here -/
def Outs (nb : Int → Int → Int) (L : List Sd) : Prop := ∀ x, x ∈ L → x.2.1 = 4 ∨ (0 ≤ x.2.1 ∧ x.2.1 ≤ 3 ∧ nb x.1 x.2.1 < 0)
theorem outs_of {W H : Int} {n : Nat} {f : Nat → Int} {L : List Sd} (hb : ∀ i, i < n → 0 ≤ f i ∧ f i ≤ 255) (h : mayS W H n f L = true) : Outs (nearF W H n f) L := by
  unfold mayS at h
  rw [Bool.and_eq_true, decide_eq_true_iff] at h
  intro x hx
  obtain ⟨i, hi, rfl⟩ := mem_el hx
  obtain ⟨k1, k2, k3, k4, k5⟩ := (okS_iff h.1 hb).1 (h.2 i hi)
  omega
theorem bst_is (c s : Int) (L : List Sd) : ((bst INF c s L).1 = 1099511627776 ∧ ∀ x, x ∈ L → ¬ (x.1 = c ∧ x.2.1 = s)) ∨ ((∃ x, x ∈ L ∧ x.1 = c ∧ x.2.1 = s ∧ x.2.2 = (bst INF c s L).1) ∧ ∀ x, x ∈ L → x.1 = c → x.2.1 = s → (bst INF c s L).1 ≤ x.2.2) := by
  obtain ⟨h1, h2⟩ := bst_of INF c s L
  cases e : (bst INF c s L).2 with
  | false => exact .inl (h1 e)
  | true => exact .inr (h2 e)
section
variable {nb : Int → Int → Int} {f F : Nat → Int} {n : Nat} {K : Int} {L : List Sd}
theorem Sprd.best (h : Sprd nb f n L F) {c : Nat} (hc : c < n) (s : Int) : F c ≤ (bst INF (c : Int) s L).1 := by
  rcases bst_is (c : Int) s L with ⟨e, _⟩ | ⟨⟨x, hx, h1, h2, h3⟩, _⟩
  · rw [e]; exact h.top c hc
  · rw [← h3]; exact h.seed hx h1
/-- some direction is told -/
theorem go_some (hg : Gph nb f n) (ho : Outs nb L) (h : Sprd nb f n L F) {c : Nat} (hc : c < n) (hF : F c ≠ 1099511627776) : ∃ d : Int, 0 ≤ d ∧ d ≤ 4 ∧ goF nb f F L c d = F c := by
  have ht := h.top c hc
  have t := h.is c hc (by omega)
  generalize hz : F c = z at t
  cases t with
  | seed c x hx e =>
    have hb := h.best hc x.2.1
    rcases bst_is (c : Int) x.2.1 L with ⟨_, e2⟩ | ⟨_, e2⟩
    · exact absurd ⟨e, rfl⟩ (e2 x hx)
    · have hle := e2 x hx e rfl
      have heq : (bst INF (c : Int) x.2.1 L).1 = x.2.2 := by omega
      rcases ho x hx with h4 | ⟨h0, h3, hn⟩
      · exact ⟨x.2.1, by omega, by omega, by unfold goF nxF; rw [if_pos h4, if_pos (by omega)]; exact heq⟩
      · have hx2 : nxF nb (c : Int) x.2.1 < 0 := by
          unfold nxF
          rw [if_neg (by omega), ← e]
          exact hn
        refine ⟨x.2.1, h0, by omega, ?_⟩
        unfold goF
        rw [if_pos hx2]
        exact heq
  | step c m s v q a1 a2 a3 a4 a5 a6 a7 =>
    refine ⟨s, a1, by omega, ?_⟩
    have h1 := h.low m v q
    have h2 := h.edge hg hc a1 a2 a3 a6 a7
    unfold goF nxF
    rw [if_neg (by omega), a3, if_neg (by omega)]
    simp only [Int.toNat_natCast]
    omega
/-- the direction that is told is one of those by which the distance comes about, and the first one -/
theorem dir_some (hg : Gph nb f n) (ho : Outs nb L) (h : Sprd nb f n L F) {c : Nat} (hc : c < n) (hF : F c ≠ 1099511627776) :
    (0 ≤ dirF nb f F L c ∧ dirF nb f F L c ≤ 4) ∧ goF nb f F L c (dirF nb f F L c) = F c ∧ (goF nb f F L c 4 = F c → dirF nb f F L c = 4) ∧ ∀ d : Int, 0 ≤ d → d < dirF nb f F L c → dirF nb f F L c ≠ 4 → goF nb f F L c d ≠ F c := by
  obtain ⟨d, d0, d4, hd⟩ := go_some hg ho h hc hF
  rcases dirF_cases nb f F L c with ⟨a, _⟩ | ⟨_, a4, e⟩ | ⟨_, a4, a0, e⟩ | ⟨_, a4, a0, a1, e⟩ | ⟨_, a4, a0, a1, a2, e⟩ | ⟨_, a4, a0, a1, a2, a3, e⟩ | ⟨_, a4, a0, a1, a2, a3, e⟩
  · exact absurd a hF
  · rw [e]; exact ⟨by omega, a4, fun _ => rfl, fun d _ _ h => absurd rfl h⟩
  · rw [e]; exact ⟨by omega, a0, fun k => absurd k a4, fun d _ _ _ => by omega⟩
  · rw [e]; refine ⟨by omega, a1, fun k => absurd k a4, fun d _ _ _ => ?_⟩
    obtain rfl : d = 0 := by omega
    exact a0
  · rw [e]; refine ⟨by omega, a2, fun k => absurd k a4, fun d _ _ _ => ?_⟩
    rcases (by omega : d = 0 ∨ d = 1) with rfl | rfl
    · exact a0
    · exact a1
  · rw [e]; refine ⟨by omega, a3, fun k => absurd k a4, fun d _ _ _ => ?_⟩
    rcases (by omega : d = 0 ∨ d = 1 ∨ d = 2) with rfl | rfl | rfl
    · exact a0
    · exact a1
    · exact a2
  · exfalso
    rcases (by omega : d = 0 ∨ d = 1 ∨ d = 2 ∨ d = 3 ∨ d = 4) with rfl | rfl | rfl | rfl | rfl
    · exact a0 hd
    · exact a1 hd
    · exact a2 hd
    · exact a3 hd
    · exact a4 hd
theorem dir_none {c : Nat} (hF : F c = 1099511627776) : dirF nb f F L c = 5 := by unfold dirF; rw [if_pos hF]
/-- where the direction leads on, it is nearer by just what is entered -/
theorem go_on (hg : Gph nb f n) (hs : Sds f n K L) (h : Sprd nb f n L F) {c : Nat} (hc : c < n) {d : Int} (d0 : 0 ≤ d) (d4 : d ≤ 4) (hd : goF nb f F L c d = F c) (hn : 0 ≤ nxF nb c d) :
    d ≠ 4 ∧ ∃ m : Nat, nb c d = (m : Int) ∧ nxF nb c d = (m : Int) ∧ m < n ∧ F m + f m = F c ∧ F m < F c ∧ f m ≠ 255 := by
  have d3 : d ≠ 4 := fun e => by unfold nxF at hn; rw [if_pos e] at hn; omega
  have e1 : nxF nb c d = nb c d := by unfold nxF; rw [if_neg d3]
  obtain ⟨m, hm⟩ : ∃ m : Nat, nb c d = (m : Int) := ⟨(nb c d).toNat, by omega⟩
  obtain ⟨hmn, _⟩ := hg.sym c m d d0 (by omega) hm hc
  have hcm := hg.cost m hmn
  have ht := h.top c hc
  unfold goF at hd
  rw [if_neg (by omega), e1, hm] at hd
  simp only [Int.toNat_natCast] at hd
  refine ⟨d3, m, hm, by omega, hmn, hd, by omega, fun e => ?_⟩
  exact ((h.is m hmn (by omega)).lt hs).2 e
/-- it leads out -/
theorem go_out {c : Nat} {d : Int} (hd : goF nb f F L c d = F c) (hn : nxF nb c d < 0) : (bst INF (c : Int) d L).1 = F c := by
  unfold goF at hd
  rwa [if_pos hn] at hd

/-- one goes on by a field's direction; -1 -/
def hopF (nb : Int → Int → Int) (D : Nat → Int) (c : Nat) : Int := if 0 ≤ D c ∧ D c ≤ 3 then nb c (D c) else -1
/-- where one is behind i steps -/
def posF (nb : Int → Int → Int) (D : Nat → Int) (c : Nat) : Nat → Nat
  | 0 => c
  | i + 1 => (hopF nb D (posF nb D c i)).toNat
/-- one goes j steps -/
structure Went (nb : Int → Int → Int) (D : Nat → Int) (n c j : Nat) : Prop where
  on : ∀ i, i < j → 0 ≤ hopF nb D (posF nb D c i)
  end' : j + 1 = n ∨ hopF nb D (posF nb D c j) < 0
  le : j + 1 ≤ n
theorem Went.uniq {D : Nat → Int} {c i j : Nat} (h : Went nb D n c i) (g : Went nb D n c j) : i = j := by
  rcases Nat.lt_trichotomy i j with k | k | k
  · have := g.on i k
    have := g.le
    rcases h.end' with e | e <;> omega
  · exact k
  · have := h.on j k
    have := h.le
    rcases g.end' with e | e <;> omega
theorem pos_lt (hg : Gph nb f n) {D : Nat → Int} {c : Nat} (hc : c < n) : ∀ j, (∀ i, i < j → 0 ≤ hopF nb D (posF nb D c i)) → posF nb D c j < n
  | 0, _ => hc
  | j + 1, h => by
    have ih := pos_lt hg hc j fun i hi => h i (by omega)
    have hj := h j (by omega)
    show (hopF nb D (posF nb D c j)).toNat < n
    unfold hopF at hj ⊢
    split at hj
    · rename_i k
      rw [if_pos k]
      exact (hg.sym _ _ _ k.1 k.2 (by rw [Int.toNat_of_nonneg hj]) ih).1
    · omega
theorem pos_step {D : Nat → Int} {c j : Nat} (h : 0 ≤ hopF nb D (posF nb D c j)) : hopF nb D (posF nb D c j) = ((posF nb D c (j + 1) : Nat) : Int) := by
  show _ = (((hopF nb D (posF nb D c j)).toNat : Nat) : Int)
  omega
theorem hop_congr {D E : Nat → Int} (he : ∀ i, i < n → E i = D i) {c : Nat} (hc : c < n) : hopF nb E c = hopF nb D c := by unfold hopF; rw [he c hc]

/-- how many are nearer -/
def rankF (F : Nat → Int) (z : Int) : Nat → Nat
  | 0 => 0
  | n + 1 => rankF F z n + if F n < z then 1 else 0
theorem rank_le {z y : Int} (F : Nat → Int) (h : y ≤ z) : ∀ n, rankF F y n ≤ rankF F z n
  | 0 => Nat.le_refl _
  | n + 1 => by
    have := rank_le F h n
    unfold rankF
    split <;> split <;> omega
theorem rank_lt {z y : Int} {m : Nat} (h : y ≤ F m) (h2 : F m < z) : ∀ {n}, m < n → rankF F y n < rankF F z n
  | 0, k => absurd k (Nat.not_lt_zero _)
  | n + 1, k => by
    unfold rankF
    by_cases e : m = n
    · subst e
      have := rank_le F (show y ≤ z by omega) m
      rw [if_neg (by omega), if_pos h2]
      omega
    · have := rank_lt h h2 (n := n) (by omega)
      split <;> split <;> omega
theorem rank_top (F : Nat → Int) (z : Int) : ∀ n, rankF F z n ≤ n
  | 0 => Nat.le_refl _
  | n + 1 => by
    have := rank_top F z n
    unfold rankF
    split <;> omega
/-- what one has paid behind j steps -/
def paidF (f : Nat → Int) (p : Nat → Nat) : Nat → Int
  | 0 => 0
  | j + 1 => paidF f p j + f (p (j + 1))
/-- who goes by a field's directions comes nearer -/
theorem down (hg : Gph nb f n) (hs : Sds f n K L) (ho : Outs nb L) (h : Sprd nb f n L F) {c : Nat} (hc : c < n) (hF : F c ≠ 1099511627776) :
    ∀ j, (∀ i, i < j → 0 ≤ hopF nb (dirF nb f F L) (posF nb (dirF nb f F L) c i)) →
      (posF nb (dirF nb f F L) c j < n ∧ F (posF nb (dirF nb f F L) c j) ≠ 1099511627776) ∧ F (posF nb (dirF nb f F L) c j) + paidF f (posF nb (dirF nb f F L) c) j = F c ∧ j + rankF F (F (posF nb (dirF nb f F L) c j)) n + 1 ≤ n
        ∧ ∀ i, i < j → F (posF nb (dirF nb f F L) c (i + 1)) < F (posF nb (dirF nb f F L) c i)
  | 0, _ => by
    have h1 := rank_lt (F := F) (y := F c) (z := F c + 1) (m := c) (by omega) (by omega) hc
    have h2 := rank_top F (F c + 1) n
    exact ⟨⟨hc, hF⟩, by unfold paidF posF; omega, by unfold posF; omega, fun i hi => absurd hi (Nat.not_lt_zero _)⟩
  | j + 1, hon => by
    obtain ⟨⟨i1, i2⟩, i3, i4, i5⟩ := down hg hs ho h hc hF j fun i hi => hon i (by omega)
    have hj := hon j (by omega)
    have hps := pos_step hj
    obtain ⟨m, hme⟩ : ∃ m, m = posF nb (dirF nb f F L) c (j + 1) := ⟨_, rfl⟩
    rw [← hme] at hps
    obtain ⟨⟨d0, d4⟩, hd, -, -⟩ := dir_some hg ho h i1 i2
    have hnx : nxF nb (posF nb (dirF nb f F L) c j) (dirF nb f F L (posF nb (dirF nb f F L) c j)) = (m : Int) := by
      unfold hopF at hps
      unfold nxF
      split at hps
      · rw [if_neg (by omega)]; exact hps
      · omega
    obtain ⟨-, m', -, e, k1, k2, k3, -⟩ := go_on hg hs h i1 d0 d4 hd (by omega)
    obtain rfl : m = m' := by omega
    have hp : posF nb (dirF nb f F L) c (j + 1) = m := hme.symm
    have hrk := rank_lt (F := F) (y := F m) (z := F (posF nb (dirF nb f F L) c j)) (m := m) (Int.le_refl _) k3 k1
    have hti := h.top _ i1
    refine ⟨by rw [hp]; exact ⟨k1, by omega⟩, ?_, by rw [hp]; omega, fun i hi => ?_⟩
    · unfold paidF
      rw [hp]
      omega
    · rcases (by omega : i < j ∨ i = j) with k | rfl
      · exact i5 i k
      · rw [hp]; exact k3
/-- who goes by a field's directions comes to a seed -/
theorem down_end (hg : Gph nb f n) (hs : Sds f n K L) (ho : Outs nb L) (h : Sprd nb f n L F) {c j : Nat} (hc : c < n) (hF : F c ≠ 1099511627776) (hw : Went nb (dirF nb f F L) n c j) :
    dirF nb f F L (posF nb (dirF nb f F L) c j) ≠ 5 ∧ (bst INF (posF nb (dirF nb f F L) c j : Int) (dirF nb f F L (posF nb (dirF nb f F L) c j)) L).1 = F (posF nb (dirF nb f F L) c j) := by
  obtain ⟨⟨i1, i2⟩, -, i4, -⟩ := down hg hs ho h hc hF j hw.on
  have he := hw.end'
  generalize posF nb (dirF nb f F L) c j = p at *
  obtain ⟨⟨d0, d4⟩, hd, -, -⟩ := dir_some hg ho h i1 i2
  refine ⟨by omega, go_out hd ?_⟩
  apply Int.not_le.1
  intro hn
  obtain ⟨d3, m, hm, -, k1, k2, k3, -⟩ := go_on hg hs h i1 d0 d4 hd hn
  have hrk := rank_lt (F := F) (y := F m) (z := F p) (m := m) (Int.le_refl _) k3 k1
  have hop : hopF nb (dirF nb f F L) p = (m : Int) := by
    unfold hopF
    rw [if_pos (by omega)]
    exact hm
  rcases he with e | e
  · omega
  · have e2 : hopF nb (dirF nb f F L) p < 0 := e
    omega
end
end Go.Proofs.Ytlnbolaaaahoaaa
