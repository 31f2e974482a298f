/- Borders in plain words: the cell over a side, a sector's border cells and nodes, runs of open places, crosses; how they are counted. No condition. -/
import Derived.Test.YtgbadbkipaccgaaGreatBG
namespace Go.Proofs.YtgbadbkipaccgaaGreat
open Go.RowKit
set_option maxRecDepth 20000

/-- the cell of another sector over a side; -1 -/
def overF (w h c s : Int) : Int := if isCellB w h (stepF w h c s) = true ∧ sectorF w (stepF w h c s) ≠ sectorF w c then stepF w h c s else -1
/-- a cell's sector; -1 -/
def secF (w h c : Int) : Int := if isCellB w h c = true then sectorF w c else -1
theorem secF_yes {w h c : Int} (k : isCellB w h c = true) : secF w h c = sectorF w c := by unfold secF; rw [if_pos k]
theorem secF_no {w h c : Int} (k : isCellB w h c = false) : secF w h c = -1 := by unfold secF; rw [if_neg (by simp [k])]
theorem secF_nn {w h c : Int} (k : isCellB w h c = true) : 0 ≤ secF w h c := by
  rw [secF_yes k]
  exact ((isSectorB_iff _ _ _).1 (sectorF_mod k).2.2).2.1
theorem isCellB_neg (w h c : Int) (k : c < 0) : isCellB w h c = false := by
  cases e : isCellB w h c
  · rfl
  · have := ((isCellB_iff _ _ _).1 e).2.1
    omega
/-- a step leads to a cell from a cell, or nowhere -/
theorem step_is (w h c s : Int) : (isCellB w h c = true ∧ isCellB w h (stepF w h c s) = true) ∨ stepF w h c s = -1 := by
  cases k : isCellB w h c
  · right; unfold stepF; rw [if_neg (by simp [k])]
  · by_cases h0 : 0 ≤ s ∧ s ≤ 4
    · by_cases h1 : 0 ≤ stepF w h c s
      · exact .inl ⟨rfl, step_cell k h0.1 h0.2 h1⟩
      · right
        by_cases h4 : s = 4
        · have := (step_lin k).2.2.2.2
          have := ((isCellB_iff _ _ _).1 k).2.1
          subst h4
          omega
        · exact step_neg k h0.1 (by omega) (by omega)
    · right; unfold stepF; rw [if_pos k, if_neg (by omega), if_neg (by omega), if_neg (by omega), if_neg (by omega), if_neg (by omega)]
theorem over_eq (w h c s : Int) : overF w h c s = if (secF w h (stepF w h c s) == secF w h c) = true then -1 else stepF w h c s := by
  rcases step_is w h c s with ⟨k, q⟩ | q
  · unfold overF
    rw [secF_yes k, secF_yes q]
    by_cases e : sectorF w (stepF w h c s) = sectorF w c
    · rw [if_neg (by simp [e]), if_pos (by simp [e])]
    · rw [if_pos ⟨q, e⟩, if_neg (by simpa using e)]
  · unfold overF
    rw [q, if_neg (by rw [isCellB_neg _ _ _ (by omega)]; simp)]
    split <;> rfl
theorem over_other (w h c s : Int) (hs : s < 0 ∨ 3 < s) : overF w h c s = -1 := by
  rcases step_is w h c s with ⟨k, q⟩ | q
  · by_cases h4 : s = 4
    · subst h4
      have e := (step_lin k).2.2.2.2
      unfold overF
      rw [e, if_neg (by simp)]
    · exfalso
      have h0 := ((isCellB_iff _ _ _).1 q).2.1
      unfold stepF at h0
      rw [if_pos k, if_neg (by omega), if_neg (by omega), if_neg (by omega), if_neg (by omega), if_neg (by omega)] at h0
      omega
  · unfold overF
    rw [q, if_neg (by rw [isCellB_neg _ _ _ (by omega)]; simp)]
theorem over_no {w h c s : Int} (k : isCellB w h c = false) : overF w h c s = -1 := by
  rcases step_is w h c s with ⟨q, _⟩ | q
  · rw [k] at q; cases q
  · unfold overF
    rw [q, if_neg (by rw [isCellB_neg _ _ _ (by omega)]; simp)]
theorem ite_same {p q : Prop} [Decidable p] [Decidable q] {a b : Int} (h : p ↔ q) : (if p then a else b) = if q then a else b := by simp [h]
/-- the four sides over an edge, by a cell's column and row -/
theorem over_lin {w h c : Int} (k : isCellB w h c = true) :
    overF w h c 0 = (if c / w % 16 = 0 ∧ 1 ≤ c / w then c - w else -1) ∧ overF w h c 1 = (if c % w % 16 = 15 ∧ c % w + 1 < w then c + 1 else -1) ∧
    overF w h c 2 = (if c / w % 16 = 15 ∧ c / w + 1 < h then c + w else -1) ∧ overF w h c 3 = (if c % w % 16 = 0 ∧ 1 ≤ c % w then c - 1 else -1) := by
  obtain ⟨p1, p2, p3, p4, p5⟩ := place_bd k
  obtain ⟨m, _, _⟩ := (isCellB_iff w h c).1 k
  obtain ⟨m1, m2, m3, m4⟩ := (mayB_iff w h).1 m
  have ab := across_bd m1 m2
  have e0 : (c / w - 1) * w = c / w * w - w := by rw [Int.sub_mul, Int.one_mul]
  have e2 : (c / w + 1) * w = c / w * w + w := by rw [Int.add_mul, Int.one_mul]
  obtain ⟨l0, l1, l2, l3, -⟩ := step_lin k
  have no : ¬ isCellB w h (-1) = true := by rw [isCellB_neg _ _ _ (by omega)]; simp
  have sec : ∀ n X Y : Int, 0 ≤ X → X < w → 0 ≤ Y → Y < h → n = Y * w + X → isCellB w h n = true ∧ (sectorF w n = sectorF w c ↔ Y / 16 * acrossF w + X / 16 = c / w / 16 * acrossF w + c % w / 16) := by
    intro n X Y a b c' d e
    obtain ⟨q1, q2, q3⟩ := at_place m a b c' d e
    refine ⟨q1, ?_⟩
    unfold sectorF
    rw [q2, q3]
  refine ⟨?_, ?_, ?_, ?_⟩
  · unfold overF
    rw [l0]
    by_cases g : 1 ≤ c / w
    · rw [if_pos g]
      obtain ⟨q1, q2⟩ := sec (c - w) (c % w) (c / w - 1) p1 p2 (by omega) (by omega) (by omega)
      refine ite_same ⟨fun ⟨_, q⟩ => ⟨?_, g⟩, fun ⟨g2, _⟩ => ⟨q1, ?_⟩⟩
      · rw [ne_eq, q2] at q
        apply Classical.byContradiction
        intro g2
        apply q
        rw [show (c / w - 1) / 16 = c / w / 16 by omega]
      · rw [ne_eq, q2]
        rw [show (c / w - 1) / 16 = c / w / 16 - 1 by omega, Int.sub_mul]; omega
    · rw [if_neg g, if_neg (fun q => no q.1), if_neg (fun q => g q.2)]
  · unfold overF
    rw [l1]
    by_cases g : c % w + 1 < w
    · rw [if_pos g]
      obtain ⟨q1, q2⟩ := sec (c + 1) (c % w + 1) (c / w) (by omega) g p3 p4 (by omega)
      refine ite_same ⟨fun ⟨_, q⟩ => ⟨?_, g⟩, fun ⟨g2, _⟩ => ⟨q1, ?_⟩⟩
      · rw [ne_eq, q2] at q
        apply Classical.byContradiction
        intro g2
        apply q
        rw [show (c % w + 1) / 16 = c % w / 16 by omega]
      · rw [ne_eq, q2]
        omega
    · rw [if_neg g, if_neg (fun q => no q.1), if_neg (fun q => g q.2)]
  · unfold overF
    rw [l2]
    by_cases g : c / w + 1 < h
    · rw [if_pos g]
      obtain ⟨q1, q2⟩ := sec (c + w) (c % w) (c / w + 1) p1 p2 (by omega) g (by omega)
      refine ite_same ⟨fun ⟨_, q⟩ => ⟨?_, g⟩, fun ⟨g2, _⟩ => ⟨q1, ?_⟩⟩
      · rw [ne_eq, q2] at q
        apply Classical.byContradiction
        intro g2
        apply q
        rw [show (c / w + 1) / 16 = c / w / 16 by omega]
      · rw [ne_eq, q2]
        rw [show (c / w + 1) / 16 = c / w / 16 + 1 by omega, Int.add_mul]; omega
    · rw [if_neg g, if_neg (fun q => no q.1), if_neg (fun q => g q.2)]
  · unfold overF
    rw [l3]
    by_cases g : 1 ≤ c % w
    · rw [if_pos g]
      obtain ⟨q1, q2⟩ := sec (c - 1) (c % w - 1) (c / w) (by omega) (by omega) p3 p4 (by omega)
      refine ite_same ⟨fun ⟨_, q⟩ => ⟨?_, g⟩, fun ⟨g2, _⟩ => ⟨q1, ?_⟩⟩
      · rw [ne_eq, q2] at q
        apply Classical.byContradiction
        intro g2
        apply q
        rw [show (c % w - 1) / 16 = c % w / 16 by omega]
      · rw [ne_eq, q2]
        omega
    · rw [if_neg g, if_neg (fun q => no q.1), if_neg (fun q => g q.2)]
/-- what is over a side is a cell, of another sector, by that step; or -1 -/
theorem over_is {w h c s : Int} (h0 : 0 ≤ overF w h c s) : overF w h c s = stepF w h c s ∧ isCellB w h c = true ∧ isCellB w h (stepF w h c s) = true ∧ sectorF w (stepF w h c s) ≠ sectorF w c ∧ 0 ≤ s ∧ s ≤ 3 := by
  by_cases hs : s < 0 ∨ 3 < s
  · rw [over_other w h c s hs] at h0
    omega
  · cases k : isCellB w h c
    · rw [over_no k] at h0
      omega
    · unfold overF at h0 ⊢
      split at h0
      · rename_i q
        rw [if_pos q]
        exact ⟨rfl, rfl, q.1, q.2, by omega, by omega⟩
      · omega
theorem over_neg {w h c s : Int} (h0 : ¬ 0 ≤ overF w h c s) : overF w h c s = -1 := by
  unfold overF at h0 ⊢
  split at h0
  · rename_i q
    have := ((isCellB_iff _ _ _).1 q.1).2.1
    omega
  · rename_i q
    rw [if_neg q]
/-- whoever crosses can cross back -/
theorem over_back {w h c s : Int} (h0 : 0 ≤ overF w h c s) : overF w h (overF w h c s) (backF s) = c ∧ 0 ≤ backF s ∧ backF s ≤ 3 := by
  obtain ⟨e, k, q, n, s0, s3⟩ := over_is h0
  have hs : 0 ≤ stepF w h c s := by omega
  have b := step_back k s0 s3 hs
  rw [e]
  refine ⟨?_, ?_⟩
  · unfold overF
    rw [b, if_pos ⟨k, fun e => n e.symm⟩]
  · unfold backF
    rcases (by omega : s = 0 ∨ s = 1 ∨ s = 2 ∨ s = 3) with rfl | rfl | rfl | rfl <;> simp

/-- a cell at a border -/
def brdB (w h c : Int) : Bool := decide (0 ≤ overF w h c 0) || decide (0 ≤ overF w h c 1) || decide (0 ≤ overF w h c 2) || decide (0 ≤ overF w h c 3)
theorem brdB_iff (w h c : Int) : brdB w h c = true ↔ 0 ≤ overF w h c 0 ∨ 0 ≤ overF w h c 1 ∨ 0 ≤ overF w h c 2 ∨ 0 ≤ overF w h c 3 := by simp [brdB, or_assoc]
theorem brdB_some {w h c : Int} (k : Nat) (hk : k ≤ 3) (h0 : 0 ≤ overF w h c k) : brdB w h c = true := by
  rw [brdB_iff]
  rcases (by omega : k = 0 ∨ k = 1 ∨ k = 2 ∨ k = 3) with rfl | rfl | rfl | rfl
  · exact .inl h0
  · exact .inr (.inl h0)
  · exact .inr (.inr (.inl h0))
  · exact .inr (.inr (.inr h0))
theorem brdB_none {w h c : Int} (h0 : ∀ j : Nat, j < 4 → ¬ 0 ≤ overF w h c j) : brdB w h c = false := by
  cases e : brdB w h c
  · rfl
  · exfalso
    rcases (brdB_iff _ _ _).1 e with q | q | q | q
    · exact h0 0 (by omega) q
    · exact h0 1 (by omega) q
    · exact h0 2 (by omega) q
    · exact h0 3 (by omega) q
theorem brdB_no {w h c : Int} (k : isCellB w h c = false) : brdB w h c = false := brdB_none fun j _ => by rw [over_no k]; omega

/-- an open cell -/
def opB (N : Nat) (f : Nat → Int) (c : Int) : Bool := decide (0 ≤ c ∧ c < N ∧ f c.toNat ≠ 255)
theorem opB_iff (N : Nat) (f : Nat → Int) (c : Int) : opB N f c = true ↔ 0 ≤ c ∧ c < N ∧ f c.toNat ≠ 255 := by simp [opB]
theorem opB_neg (N : Nat) (f : Nat → Int) (c : Int) (h : c < 0) : opB N f c = false := by
  cases e : opB N f c
  · rfl
  · have := ((opB_iff _ _ _).1 e).1
    omega

/-- a sector's border cells among its first k locals; all of them; its nodes -/
def cellsK (W H : Int) (s k : Nat) : List Nat := ((List.range k).map (gcF W s)).filter fun (c : Nat) => brdB W H (c : Int)
def cellsL (W H s : Int) : List Nat := if isSectorB W H s = true then cellsK W H s.toNat (tnF W H s.toNat) else []
def nodesL (W H : Int) (N : Nat) (f : Nat → Int) (s : Int) : List Nat := (cellsL W H s).filter fun (c : Nat) => opB N f (c : Int)
theorem cellsK_yes {W H : Int} {s k : Nat} (h : brdB W H (gcF W s k) = true) : cellsK W H s (k + 1) = cellsK W H s k ++ [gcF W s k] := by simp [cellsK, List.range_succ, h]
theorem cellsK_no {W H : Int} {s k : Nat} (h : brdB W H (gcF W s k) = false) : cellsK W H s (k + 1) = cellsK W H s k := by simp [cellsK, List.range_succ, h]
theorem cellsK_len (W H : Int) (s k : Nat) : (cellsK W H s k).length ≤ k := by
  have := List.length_filter_le (fun (c : Nat) => brdB W H (c : Int)) ((List.range k).map (gcF W s))
  simpa [cellsK] using this
theorem cellsL_len (W H s : Int) : (cellsL W H s).length ≤ 256 := by
  unfold cellsL
  split
  · rename_i h
    obtain ⟨z, rfl⟩ : ∃ z : Nat, s = z := ⟨s.toNat, by have := ((isSectorB_iff _ _ _).1 h).2.1; omega⟩
    have := cellsK_len W H z (tnF W H z)
    have := (tnF_eq h).2.2
    simp only [Int.toNat_natCast]
    omega
  · simp
theorem gcF_mono {W H : Int} {s i j : Nat} (hs : isSectorB W H s = true) (hj : j < tnF W H s) (hij : i < j) : gcF W s i < gcF W s j := by
  obtain ⟨e1, k1, s1, l1⟩ := gcF_eq hs (by omega : i < tnF W H s)
  obtain ⟨e2, k2, s2, l2⟩ := gcF_eq hs hj
  have ht := (tnF_eq hs).1
  have sb := size_bd hs
  have tb := sector_bd hs
  have b1 := local_bd hs (by omega : (0 : Int) ≤ i) (by omega)
  have b2 := local_bd hs (by omega : (0 : Int) ≤ j) (by omega)
  have q : (globalF W s i) < globalF W s j := by
    unfold globalF
    by_cases hr : (i : Int) / twF W s = j / twF W s
    · rw [hr]
      rw [hr] at b1
      omega
    · have hlt : (i : Int) / twF W s < j / twF W s := by
        have : (i : Int) / twF W s ≤ j / twF W s := Int.ediv_le_ediv (by omega) (by omega)
        omega
      have := Int.mul_le_mul_of_nonneg_right (show (s : Int) / acrossF W * 16 + i / twF W s + 1 ≤ s / acrossF W * 16 + j / twF W s by omega) (show 0 ≤ W by omega)
      rw [Int.add_mul _ 1 W, Int.one_mul] at this
      omega
  omega
theorem cellsK_rise {W H : Int} {s : Nat} (hs : isSectorB W H s = true) : ∀ k, k ≤ tnF W H s → (cellsK W H s k).Pairwise (· < ·) ∧ ∀ c ∈ cellsK W H s k, ∃ l, l < k ∧ c = gcF W s l := by
  intro k
  induction k with
  | zero => intro _; simp [cellsK]
  | succ k ih =>
    intro hk
    obtain ⟨h1, h2⟩ := ih (by omega)
    cases hb : brdB W H (gcF W s k)
    · rw [cellsK_no hb]
      exact ⟨h1, fun c hc => by obtain ⟨l, hl, e⟩ := h2 c hc; exact ⟨l, by omega, e⟩⟩
    · rw [cellsK_yes hb]
      refine ⟨?_, ?_⟩
      · rw [List.pairwise_append]
        refine ⟨h1, by simp, fun a ha b hb' => ?_⟩
        obtain ⟨l, hl, rfl⟩ := h2 a ha
        simp only [List.mem_singleton] at hb'
        subst hb'
        exact gcF_mono hs (by omega) hl
      · intro c hc
        rcases List.mem_append.1 hc with hc | hc
        · obtain ⟨l, hl, e⟩ := h2 c hc
          exact ⟨l, by omega, e⟩
        · simp only [List.mem_singleton] at hc
          exact ⟨k, by omega, hc⟩
/-- nodes rise, are cells of the sector, open, at a border -/
theorem nodesL_rise {W H : Int} {N : Nat} {f : Nat → Int} {s : Nat} (hs : isSectorB W H s = true) : (nodesL W H N f s).Pairwise (· < ·) ∧ ∀ c ∈ nodesL W H N f s, isCellB W H c = true ∧ sectorF W c = s ∧ opB N f c = true ∧ brdB W H c = true := by
  unfold nodesL cellsL
  rw [if_pos hs, Int.toNat_natCast]
  obtain ⟨h1, h2⟩ := cellsK_rise hs (tnF W H s) (Nat.le_refl _)
  refine ⟨h1.filter _, fun c hc => ?_⟩
  obtain ⟨a, b⟩ := List.mem_filter.1 hc
  obtain ⟨l, hl, rfl⟩ := h2 c a
  obtain ⟨-, k, e, -⟩ := gcF_eq hs hl
  exact ⟨k, e, b, (List.mem_filter.1 a).2⟩

/-- whether one crosses over a side -/
def crsB (W H : Int) (N : Nat) (f : Nat → Int) (c : Int) (s : Int) : Bool := opB N f c && opB N f (overF W H c s)
theorem crs_over {W H : Int} {N : Nat} {f : Nat → Int} {c s : Int} (h : crsB W H N f c s = true) : 0 ≤ overF W H c s := ((opB_iff _ _ _).1 (Bool.and_eq_true_iff.1 h).2).1
/-- the sides over which one crosses, among the first k; the crosses -/
def sidesK (W H : Int) (N : Nat) (f : Nat → Int) (c : Int) (k : Nat) : List Nat := (List.range k).filter fun (s : Nat) => crsB W H N f c (s : Int)
def edgF (W H : Int) (f : Nat → Int) (c : Int) (s : Nat) : Int × Int := (overF W H c s, f (overF W H c s).toNat)
def crossK (W H : Int) (N : Nat) (f : Nat → Int) (c : Int) (k : Nat) : List (Int × Int) := (sidesK W H N f c k).map (edgF W H f c)
theorem crossK_yes {W H : Int} {N : Nat} {f : Nat → Int} {c : Int} {k : Nat} (h : crsB W H N f c k = true) : crossK W H N f c (k + 1) = crossK W H N f c k ++ [edgF W H f c k] := by simp [crossK, sidesK, List.range_succ, h]
theorem crossK_no {W H : Int} {N : Nat} {f : Nat → Int} {c : Int} {k : Nat} (h : crsB W H N f c k = false) : crossK W H N f c (k + 1) = crossK W H N f c k := by simp [crossK, sidesK, List.range_succ, h]
theorem crossK_none {W H : Int} {N : Nat} {f : Nat → Int} {c : Int} (k : Nat) (h : opB N f c = false) : crossK W H N f c k = [] := by simp [crossK, sidesK, crsB, h]
theorem crossK_len (W H : Int) (N : Nat) (f : Nat → Int) (c : Int) (k : Nat) : (crossK W H N f c k).length ≤ k := by
  have := List.length_filter_le (fun (s : Nat) => crsB W H N f c (s : Int)) (List.range k)
  simpa [crossK, sidesK] using this
/-- no more than two cross -/
theorem sides_two (W H : Int) (N : Nat) (f : Nat → Int) (c : Int) : (sidesK W H N f c 4).length ≤ 2 := by
  cases ho : opB N f c
  · have : sidesK W H N f c 4 = [] := List.filter_eq_nil_iff.2 fun s _ => by simp [crsB, ho]
    simp [this]
  · cases k : isCellB W H c
    · have : sidesK W H N f c 4 = [] := List.filter_eq_nil_iff.2 fun s _ => by
        unfold crsB
        rw [over_no k, opB_neg N f (-1) (by omega), Bool.and_false]
        simp
      simp [this]
    · obtain ⟨l0, l1, l2, l3⟩ := over_lin k
      have a : crsB W H N f c 0 = true → ¬ crsB W H N f c 2 = true := by
        intro p q
        have p1 := ((opB_iff _ _ _).1 (Bool.and_eq_true_iff.1 p).2).1
        have q1 := ((opB_iff _ _ _).1 (Bool.and_eq_true_iff.1 q).2).1
        rw [l0] at p1
        rw [l2] at q1
        split at p1 <;> split at q1 <;> omega
      have b : crsB W H N f c 1 = true → ¬ crsB W H N f c 3 = true := by
        intro p q
        have p1 := ((opB_iff _ _ _).1 (Bool.and_eq_true_iff.1 p).2).1
        have q1 := ((opB_iff _ _ _).1 (Bool.and_eq_true_iff.1 q).2).1
        rw [l1] at p1
        rw [l3] at q1
        split at p1 <;> split at q1 <;> omega
      have e : sidesK W H N f c 4 = (if crsB W H N f c 0 then [0] else []) ++ (if crsB W H N f c 1 then [1] else []) ++ (if crsB W H N f c 2 then [2] else []) ++ (if crsB W H N f c 3 then [3] else []) := by
        have r : List.range 4 = [0, 1, 2, 3] := rfl
        unfold sidesK
        rw [r]
        cases h0 : crsB W H N f c 0 <;> cases h1 : crsB W H N f c 1 <;> cases h2 : crsB W H N f c 2 <;> cases h3 : crsB W H N f c 3 <;> simp [h0, h1, h2, h3]
      rw [e]
      cases h0 : crsB W H N f c 0 <;> cases h1 : crsB W H N f c 1 <;> cases h2 : crsB W H N f c 2 <;> cases h3 : crsB W H N f c 3 <;> simp_all

/-- open places, one behind the other: how many up to here without a gap; the runs that have ended -/
def curK (o : Nat → Bool) : Nat → Nat
  | 0 => 0
  | k + 1 => if o k then curK o k + 1 else 0
def endK (o : Nat → Bool) : Nat → List (Int × Int)
  | 0 => []
  | k + 1 => if o k then endK o k else if curK o k = 0 then endK o k else endK o k ++ [((k - curK o k : Int), (curK o k : Int))]
/-- all runs, that one too that goes on -/
def runsK (o : Nat → Bool) (k : Nat) : List (Int × Int) := if curK o k = 0 then endK o k else endK o k ++ [((k - curK o k : Int), (curK o k : Int))]
theorem cur_yes {o : Nat → Bool} {k : Nat} (h : o k = true) : curK o (k + 1) = curK o k + 1 := by simp [curK, h]
theorem cur_no {o : Nat → Bool} {k : Nat} (h : o k = false) : curK o (k + 1) = 0 := by simp [curK, h]
theorem end_yes {o : Nat → Bool} {k : Nat} (h : o k = true) : endK o (k + 1) = endK o k := by simp [endK, h]
theorem end_no {o : Nat → Bool} {k : Nat} (h : o k = false) : endK o (k + 1) = runsK o k := by simp [endK, h, runsK]
theorem runs_no {o : Nat → Bool} {k : Nat} (h : o k = false) : runsK o (k + 1) = runsK o k := by
  rw [← end_no h]
  unfold runsK
  rw [cur_no h, if_pos rfl]
theorem runs_yes {o : Nat → Bool} {k : Nat} (h : o k = true) : runsK o (k + 1) = endK o k ++ [((k - curK o k : Int), (curK o k : Int) + 1)] := by
  unfold runsK
  rw [cur_yes h, end_yes h, if_neg (by omega)]
  congr 3
  omega
theorem runs_go {o : Nat → Bool} {k : Nat} (h : 0 < curK o k) : runsK o k = endK o k ++ [((k - curK o k : Int), (curK o k : Int))] := by
  unfold runsK
  rw [if_neg (by omega)]
theorem runs_new {o : Nat → Bool} {k : Nat} (h : curK o k = 0) : runsK o k = endK o k := by
  unfold runsK
  rw [if_pos h]
theorem cur_le (o : Nat → Bool) : ∀ k, curK o k ≤ k
  | 0 => Nat.le_refl _
  | k + 1 => by
    have := cur_le o k
    cases h : o k
    · rw [cur_no h]; omega
    · rw [cur_yes h]; omega
theorem end_len (o : Nat → Bool) : ∀ k, (endK o k).length + (if curK o k = 0 then 0 else 1) ≤ k
  | 0 => by simp [endK, curK]
  | k + 1 => by
    have := end_len o k
    cases h : o k
    · rw [cur_no h, end_no h]
      unfold runsK
      split
      · rename_i q
        rw [if_pos q] at this
        simp only [if_true]
        omega
      · rename_i q
        rw [if_neg q] at this
        simp only [if_true, List.length_append, List.length_singleton]
        omega
    · rw [cur_yes h, end_yes h, if_neg (by omega)]
      split at this <;> omega
theorem runs_len (o : Nat → Bool) (k : Nat) : (runsK o k).length ≤ k := by
  have := end_len o k
  unfold runsK
  split
  · rename_i q; rw [if_pos q] at this; omega
  · rename_i q; rw [if_neg q] at this; simpa using this
/-- a sum over the first n -/
def sumN : Nat → (Nat → Nat) → Nat
  | 0, _ => 0
  | n + 1, g => sumN n g + g n
def b01 (b : Bool) : Nat := if b then 1 else 0
theorem end_ok (o : Nat → Bool) : ∀ k, (∀ e ∈ endK o k, 0 ≤ e.1 ∧ 1 ≤ e.2 ∧ e.1 + e.2 < (k : Int) - curK o k) ∧ (endK o k).Pairwise (fun a b => a.1 + a.2 < b.1) ∧ ((endK o k).map Prod.snd).sum + (curK o k : Int) = (sumN k fun i => b01 (o i) : Nat)
  | 0 => by simp [endK, curK, sumN]
  | k + 1 => by
    obtain ⟨h1, h2, h3⟩ := end_ok o k
    have hl := cur_le o k
    cases h : o k
    · have hs : sumN (k + 1) (fun i => b01 (o i)) = sumN k fun i => b01 (o i) := by simp [sumN, h, b01]
      rw [cur_no h, end_no h, hs]
      by_cases hc : curK o k = 0
      · rw [runs_new hc]
        rw [hc] at h1 h3
        exact ⟨fun e he => by have := h1 e he; omega, h2, h3⟩
      · rw [runs_go (by omega)]
        refine ⟨fun e he => ?_, ?_, ?_⟩
        · rcases List.mem_append.1 he with he | he
          · have := h1 e he; omega
          · simp only [List.mem_singleton] at he
            subst he
            simp only
            omega
        · rw [List.pairwise_append]
          refine ⟨h2, by simp, fun a ha b hb => ?_⟩
          simp only [List.mem_singleton] at hb
          subst hb
          exact (h1 a ha).2.2
        · rw [List.map_append, List.sum_append]
          simp only [List.map_cons, List.map_nil, List.sum_cons, List.sum_nil]
          omega
    · have hs : sumN (k + 1) (fun i => b01 (o i)) = (sumN k fun i => b01 (o i)) + 1 := by simp [sumN, h, b01]
      rw [cur_yes h, end_yes h, hs]
      exact ⟨fun e he => by have := h1 e he; omega, h2, by omega⟩
theorem runs_ok (o : Nat → Bool) (k : Nat) : (∀ e ∈ runsK o k, 0 ≤ e.1 ∧ 1 ≤ e.2 ∧ e.1 + e.2 ≤ k) ∧ (runsK o k).Pairwise (fun a b => a.1 + a.2 < b.1) ∧ ((runsK o k).map Prod.snd).sum = (sumN k fun i => b01 (o i) : Nat) := by
  obtain ⟨h1, h2, h3⟩ := end_ok o k
  have hl := cur_le o k
  by_cases hc : curK o k = 0
  · rw [runs_new hc]
    rw [hc] at h1 h3
    exact ⟨fun e he => by have := h1 e he; omega, h2, by omega⟩
  · rw [runs_go (by omega)]
    refine ⟨fun e he => ?_, ?_, ?_⟩
    · rcases List.mem_append.1 he with he | he
      · have := h1 e he; omega
      · simp only [List.mem_singleton] at he
        subst he
        simp only
        omega
    · rw [List.pairwise_append]
      refine ⟨h2, by simp, fun a ha b hb => ?_⟩
      simp only [List.mem_singleton] at hb
      subst hb
      exact (h1 a ha).2.2
    · rw [List.map_append, List.sum_append]
      simp only [List.map_cons, List.map_nil, List.sum_cons, List.sum_nil]
      omega

/-- the k-th local along a side, how many there are -/
def locF (W H : Int) (s side k : Nat) : Nat := if side = 0 then k else if side = 1 then k * (twF W s).toNat + ((twF W s).toNat - 1) else if side = 2 then ((thF W H s).toNat - 1) * (twF W s).toNat + k else k * (twF W s).toNat
def longF (W H : Int) (s side : Nat) : Nat := if side = 0 ∨ side = 2 then (twF W s).toNat else (thF W H s).toNat
/-- whether a place along a side is open -/
def plcB (W H : Int) (N : Nat) (f : Nat → Int) (s side k : Nat) : Bool := crsB W H N f (gcF W s (locF W H s side k)) side
/-- the same, as border reckons it -/
def fstF (W H s side : Int) : Int := if side = 1 then twF W s - 1 else if side = 2 then (thF W H s - 1) * twF W s else 0
def aptF (W s side : Int) : Int := if side = 0 ∨ side = 2 then 1 else twF W s
def lngF (W H s side : Int) : Int := if side = 0 ∨ side = 2 then twF W s else thF W H s
theorem loc_ok {W H : Int} {s side : Nat} (hs : isSectorB W H s = true) (h3 : side ≤ 3) : lngF W H s side = (longF W H s side : Nat) ∧ longF W H s side ≤ 16 ∧
    ∀ k, k < longF W H s side → locF W H s side k < tnF W H s ∧ ((locF W H s side k : Nat) : Int) = fstF W H s side + k * aptF W s side ∧ 0 ≤ (k : Int) * aptF W s side ∧ (k : Int) * aptF W s side ≤ 256 := by
  obtain ⟨a, b, c, d, -, -⟩ := size_bd hs
  obtain ⟨e, -, -⟩ := tnF_eq hs
  obtain ⟨tw, htw⟩ : ∃ tw : Nat, twF W s = tw := ⟨(twF W s).toNat, by omega⟩
  obtain ⟨th, hth⟩ : ∃ th : Nat, thF W H s = th := ⟨(thF W H s).toNat, by omega⟩
  have htn : tnF W H s = tw * th := by
    rw [htw, hth] at e
    exact_mod_cast e
  unfold lngF longF locF fstF aptF
  rw [htn, htw, hth, Int.toNat_natCast, Int.toNat_natCast]
  rw [htw] at a b
  rw [hth] at c d
  have m := Nat.mul_le_mul_right tw (show 1 ≤ th by omega)
  rcases (by omega : side = 0 ∨ side = 1 ∨ side = 2 ∨ side = 3) with rfl | rfl | rfl | rfl
  · refine ⟨by simp, by simp; omega, fun k hk => ?_⟩
    simp only [true_or, if_true] at hk
    have := Nat.mul_comm th tw
    refine ⟨by simp; omega, by simp, by simp, by simp; omega⟩
  · refine ⟨by simp, by simp; omega, fun k hk => ?_⟩
    simp at hk
    have h1 := Nat.mul_le_mul_right tw (show k + 1 ≤ th by omega)
    have h2 := Nat.mul_le_mul (show k ≤ 16 by omega) (show tw ≤ 16 by omega)
    rw [Nat.succ_mul, Nat.mul_comm th tw] at h1
    refine ⟨by simp; omega, ?_, ?_, ?_⟩
    · simp
      omega
    · simp
      exact_mod_cast Nat.zero_le (k * tw)
    · simp
      exact_mod_cast h2
  · refine ⟨by simp, by simp; omega, fun k hk => ?_⟩
    simp at hk
    have h1 : (th - 1) * tw + tw = tw * th := by rw [← Nat.succ_mul, Nat.mul_comm]; congr 1; omega
    refine ⟨by simp; omega, ?_, by simp, by simp; omega⟩
    simp
    rw [show ((th : Int) - 1) = ((th - 1 : Nat) : Int) by omega]
  · refine ⟨by simp, by simp; omega, fun k hk => ?_⟩
    simp at hk
    have h1 := Nat.mul_le_mul_right tw (show k + 1 ≤ th by omega)
    have h2 := Nat.mul_le_mul (show k ≤ 16 by omega) (show tw ≤ 16 by omega)
    rw [Nat.succ_mul, Nat.mul_comm th tw] at h1
    refine ⟨by simp; omega, by simp, ?_, ?_⟩
    · simp
      exact_mod_cast Nat.zero_le (k * tw)
    · simp
      exact_mod_cast h2
theorem fst_bd {W H : Int} {s side : Nat} (hs : isSectorB W H s = true) : 0 ≤ fstF W H s side ∧ fstF W H s side ≤ 256 := by
  obtain ⟨a, b, c, d, -, -⟩ := size_bd hs
  have := mul_bd (w := thF W H s - 1) (h := twF W s) (W := 16) (H := 16) (by omega) (by omega) (by omega) (by omega)
  unfold fstF
  split
  · omega
  · split <;> omega
def runsL (W H : Int) (N : Nat) (f : Nat → Int) (s side : Int) : List (Int × Int) :=
  if isSectorB W H s = true ∧ 0 ≤ side ∧ side ≤ 3 then runsK (plcB W H N f s.toNat side.toNat) (longF W H s.toNat side.toNat) else []
end Go.Proofs.YtgbadbkipaccgaaGreat
