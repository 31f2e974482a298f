/- How places and crosses are counted: along each side as many places are open as cells of the sector cross there; at most sixty nodes. No condition. -/
import Derived.Test.YtgbadbkipaccgaaGreatBMath11
namespace Go.Proofs.YtgbadbkipaccgaaGreat
open Go.RowKit
set_option maxRecDepth 20000

theorem sumN_add (n : Nat) (g h : Nat → Nat) : sumN n (fun i => g i + h i) = sumN n g + sumN n h := by
  induction n with
  | zero => rfl
  | succ n ih => simp only [sumN, ih]; omega
theorem sumN_congr {n : Nat} {g h : Nat → Nat} (e : ∀ i, i < n → g i = h i) : sumN n g = sumN n h := by
  induction n with
  | zero => rfl
  | succ n ih => simp only [sumN, ih fun i hi => e i (by omega), e n (by omega)]
theorem sumN_le {n : Nat} {g h : Nat → Nat} (e : ∀ i, i < n → g i ≤ h i) : sumN n g ≤ sumN n h := by
  induction n with
  | zero => exact Nat.le_refl _
  | succ n ih => simp only [sumN]; have := ih fun i hi => e i (by omega); have := e n (by omega); omega
theorem sumN_cat (a : Nat) (g : Nat → Nat) : ∀ b, sumN (a + b) g = sumN a g + sumN b (fun i => g (a + i))
  | 0 => by simp [sumN]
  | b + 1 => by
    have := sumN_cat a g b
    rw [← Nat.add_assoc]
    simp only [sumN]
    omega
theorem sumN_mul (m : Nat) (g : Nat → Nat) : ∀ n, sumN (n * m) g = sumN n (fun y => sumN m (fun x => g (y * m + x)))
  | 0 => by simp [sumN]
  | n + 1 => by
    rw [Nat.succ_mul, sumN_cat, sumN_mul m g n]
    rfl
theorem sumN_zero {n : Nat} {g : Nat → Nat} (e : ∀ i, i < n → g i = 0) : sumN n g = 0 := by
  induction n with
  | zero => rfl
  | succ n ih => simp only [sumN, ih fun i hi => e i (by omega), e n (by omega)]
theorem sumN_one {n j : Nat} {g : Nat → Nat} (hj : j < n) (e : ∀ i, i < n → i ≠ j → g i = 0) : sumN n g = g j := by
  induction n with
  | zero => omega
  | succ n ih =>
    simp only [sumN]
    by_cases h : j = n
    · subst h
      rw [sumN_zero fun i hi => e i (by omega) (by omega)]
      omega
    · rw [ih (by omega) fun i hi hne => e i (by omega) hne, e n (by omega) (by omega)]
      omega
theorem sumN_const (n c : Nat) : sumN n (fun _ => c) = n * c := by
  induction n with
  | zero => simp [sumN]
  | succ n ih => simp only [sumN, ih, Nat.succ_mul]
theorem sumN_mulc (n d : Nat) (g : Nat → Nat) : sumN n (fun i => g i * d) = sumN n g * d := by
  induction n with
  | zero => simp [sumN]
  | succ n ih => simp only [sumN, Nat.add_mul, ih]
theorem sumN_at (n a : Nat) : sumN n (fun i => b01 (decide (i = a))) ≤ 1 := by
  by_cases h : a < n
  · rw [sumN_one h fun i _ hne => by simp [b01, hne]]
    simp [b01]
  · rw [sumN_zero fun i hi => by
      have : i ≠ a := by omega
      simp [b01, this]]
    omega
theorem sumN_two (n a b : Nat) : sumN n (fun i => b01 (decide (i = a ∨ i = b))) ≤ 2 := by
  have h1 := sumN_at n a
  have h2 := sumN_at n b
  have h3 := sumN_add n (fun i => b01 (decide (i = a))) (fun i => b01 (decide (i = b)))
  have h4 := sumN_le (n := n) (g := fun i => b01 (decide (i = a ∨ i = b))) (h := fun i => b01 (decide (i = a)) + b01 (decide (i = b))) (fun i _ => by
    by_cases x : i = a
    · have : b01 (decide (i = a ∨ i = b)) ≤ 1 := by unfold b01; split <;> omega
      simp only [x, true_or, decide_true, b01]
      simp
    · simp [b01, x])
  omega
theorem b01_le (b : Bool) : b01 b ≤ 1 := by unfold b01; split <;> omega

/-- a sector's width, height, as numbers -/
def twN (W : Int) (s : Nat) : Nat := (twF W s).toNat
def thN (W H : Int) (s : Nat) : Nat := (thF W H s).toNat
theorem two_eq {W H : Int} {s : Nat} (hs : isSectorB W H s = true) : twF W s = twN W s ∧ thF W H s = thN W H s ∧ tnF W H s = thN W H s * twN W s ∧ 1 ≤ twN W s ∧ twN W s ≤ 16 ∧ 1 ≤ thN W H s ∧ thN W H s ≤ 16 := by
  obtain ⟨a, b, c, d, -, -⟩ := size_bd hs
  have h1 : twF W s = twN W s := by unfold twN; omega
  have h2 : thF W H s = thN W H s := by unfold thN; omega
  refine ⟨h1, h2, ?_, by omega, by omega, by omega, by omega⟩
  have ht := (tnF_eq hs).1
  rw [h1, h2] at ht
  rw [Nat.mul_comm]
  exact_mod_cast ht
/-- who has somebody over a side stands along that side -/
theorem edge_at {W H : Int} {s y x : Nat} (hs : isSectorB W H s = true) (hx : x < twN W s) (hy : y < thN W H s) {side : Int} (h0 : 0 ≤ overF W H (gcF W s (y * twN W s + x)) side) :
    (side = 0 ∧ y = 0) ∨ (side = 1 ∧ x = twN W s - 1) ∨ (side = 2 ∧ y = thN W H s - 1) ∨ (side = 3 ∧ x = 0) := by
  obtain ⟨e1, e2, e3, e4, e5, e6, e7⟩ := two_eq hs
  have hl : y * twN W s + x < tnF W H s := by
    rw [e3]
    have := Nat.mul_le_mul_right (twN W s) (show y + 1 ≤ thN W H s by omega)
    rw [Nat.succ_mul] at this
    omega
  obtain ⟨eg, kc, -, -⟩ := gcF_eq hs hl
  have ht := (tnF_eq hs).1
  obtain ⟨-, g1, g2⟩ := global_cell (l := ((y * twN W s + x : Nat) : Int)) hs (by omega) (by omega)
  have r := rowcol (tw := (twN W s : Int)) (th := (thN W H s : Int)) (X := x) (Y := y) (by omega) (by omega) (by omega) (by omega)
  have hc : (((y * twN W s + x : Nat)) : Int) = (y : Int) * (twN W s : Int) + (x : Int) := by push_cast; rfl
  rw [hc] at g1 g2
  rw [e1] at g1 g2
  rw [r.2.2.1] at g1
  rw [r.2.2.2] at g2
  rw [← hc, ← eg] at g1 g2
  obtain ⟨l0, l1, l2, l3⟩ := over_lin kc
  have sb := size_bd hs
  have hb := over_is h0
  have tb := sector_bd hs
  rcases (by omega : side = 0 ∨ side = 1 ∨ side = 2 ∨ side = 3) with rfl | rfl | rfl | rfl
  · rw [l0] at h0
    split at h0
    · omega
    · omega
  · rw [l1] at h0
    split at h0
    · right; left
      unfold twF at e1
      omega
    · omega
  · rw [l2] at h0
    split at h0
    · right; right; left
      unfold thF at e2
      omega
    · omega
  · rw [l3] at h0
    split at h0
    · omega
    · omega
/-- along a side as many places are open as cells of the sector cross over it -/
theorem side_count {W H : Int} {N : Nat} {f : Nat → Int} {s side : Nat} (hs : isSectorB W H s = true) (h3 : side ≤ 3) :
    (sumN (longF W H s side) fun k => b01 (plcB W H N f s side k)) = sumN (tnF W H s) fun l => b01 (crsB W H N f (gcF W s l) side) := by
  obtain ⟨-, -, e3, e4, -, e6, -⟩ := two_eq hs
  rw [e3, sumN_mul]
  have no : ∀ y x, x < twN W s → y < thN W H s → ¬ (((side : Int) = 0 ∧ y = 0) ∨ ((side : Int) = 1 ∧ x = twN W s - 1) ∨ ((side : Int) = 2 ∧ y = thN W H s - 1) ∨ ((side : Int) = 3 ∧ x = 0)) → b01 (crsB W H N f (gcF W s (y * twN W s + x)) side) = 0 := by
    intro y x hx hy hn
    cases h : crsB W H N f (gcF W s (y * twN W s + x)) side
    · rfl
    · exact absurd (edge_at hs hx hy (crs_over h)) hn
  rcases (by omega : side = 0 ∨ side = 1 ∨ side = 2 ∨ side = 3) with rfl | rfl | rfl | rfl
  · rw [sumN_one (j := 0) (by omega) fun y hy hne => sumN_zero fun x hx => no y x hx hy (by omega)]
    unfold longF
    rw [if_pos (by simp)]
    refine sumN_congr fun k _ => ?_
    simp [plcB, locF]
  · unfold longF
    rw [if_neg (by simp)]
    refine sumN_congr fun k hk => ?_
    rw [sumN_one (j := twN W s - 1) (by omega) fun x hx hne => no k x hx hk (by omega)]
    simp [plcB, locF, twN]
  · rw [sumN_one (j := thN W H s - 1) (by omega) fun y hy hne => sumN_zero fun x hx => no y x hx hy (by omega)]
    unfold longF
    rw [if_pos (by simp)]
    refine sumN_congr fun k _ => ?_
    simp [plcB, locF, twN, thN]
  · unfold longF
    rw [if_neg (by simp)]
    refine sumN_congr fun k hk => ?_
    rw [sumN_one (j := 0) (by omega) fun x hx hne => no k x hx hk (by omega)]
    simp [plcB, locF, twN]

theorem sides_len (W H : Int) (N : Nat) (f : Nat → Int) (c : Int) : ∀ k, (sidesK W H N f c k).length = sumN k fun s => b01 (crsB W H N f c s)
  | 0 => by simp [sidesK, sumN]
  | k + 1 => by
    have := sides_len W H N f c k
    simp only [sumN, ← this]
    unfold sidesK
    cases h : crsB W H N f c k <;> simp [List.range_succ, h, b01]
theorem cross_len (W H : Int) (N : Nat) (f : Nat → Int) (c : Int) : (crossK W H N f c 4).length = sumN 4 fun s => b01 (crsB W H N f c s) := by
  unfold crossK
  rw [List.length_map, sides_len]
/-- a sum over some of the cells -/
theorem cells_sum (W H : Int) (s : Nat) (p : Nat → Bool) (g : Nat → Nat) : ∀ k, ((((cellsK W H s k).filter p).map g).sum) = sumN k fun l => if brdB W H (gcF W s l) && p (gcF W s l) then g (gcF W s l) else 0
  | 0 => by simp [cellsK, sumN]
  | k + 1 => by
    have ih := cells_sum W H s p g k
    simp only [sumN, ← ih]
    cases hb : brdB W H (gcF W s k)
    · rw [cellsK_no hb]; simp
    · rw [cellsK_yes hb, List.filter_append, List.map_append, List.sum_append]
      cases hp : p (gcF W s k) <;> simp [hp]
theorem not_node {W H : Int} {N : Nat} {f : Nat → Int} {c : Int} (h : (brdB W H c && opB N f c) = false) : ∀ k : Nat, k < 4 → b01 (crsB W H N f c k) = 0 := by
  intro k hk
  cases e : crsB W H N f c k
  · rfl
  · exfalso
    have a := brdB_some k (by omega) (crs_over e)
    have b := (Bool.and_eq_true_iff.1 e).1
    rw [a, b] at h
    cases h
/-- the crosses of all nodes of a sector are the open places of its sides, as many -/
theorem crosses_places {W H : Int} {N : Nat} {f : Nat → Int} {s : Nat} (hs : isSectorB W H s = true) :
    ((nodesL W H N f s).map fun (c : Nat) => (crossK W H N f (c : Int) 4).length).sum = sumN 4 fun side => sumN (longF W H s side) fun k => b01 (plcB W H N f s side k) := by
  unfold nodesL cellsL
  rw [if_pos hs, Int.toNat_natCast, cells_sum]
  have e : (sumN (tnF W H s) fun l => if (brdB W H (gcF W s l) && opB N f (gcF W s l)) = true then (crossK W H N f (gcF W s l) 4).length else 0) = sumN (tnF W H s) fun l => sumN 4 fun side => b01 (crsB W H N f (gcF W s l) side) := by
    refine sumN_congr fun l _ => ?_
    cases h : brdB W H (gcF W s l) && opB N f (gcF W s l)
    · rw [if_neg (by simp), sumN_zero (not_node h)]
    · rw [if_pos rfl, cross_len]
  rw [e]
  simp only [sumN, Nat.zero_add]
  rw [sumN_add, sumN_add, sumN_add]
  have q := fun side h => side_count (N := N) (f := f) (side := side) hs h
  have q0 := q 0 (by omega)
  have q1 := q 1 (by omega)
  have q2 := q 2 (by omega)
  have q3 := q 3 (by omega)
  rw [q0, q1, q2, q3]
theorem len_sum (L : List Nat) : (L.map fun _ => 1).sum = L.length := by
  induction L with
  | nil => rfl
  | cons a L ih => simp only [List.map_cons, List.sum_cons, ih, List.length_cons]; omega
/-- at most sixty nodes -/
theorem nodes_sixty {W H : Int} {N : Nat} {f : Nat → Int} {s : Nat} (hs : isSectorB W H s = true) : (nodesL W H N f s).length ≤ 60 := by
  obtain ⟨-, -, e3, e4, e5, e6, e7⟩ := two_eq hs
  rw [← len_sum]
  unfold nodesL cellsL
  rw [if_pos hs, Int.toNat_natCast, cells_sum, e3, sumN_mul]
  have h1 : ∀ y, y < thN W H s → (sumN (twN W s) fun x => if (brdB W H (gcF W s (y * twN W s + x)) && opB N f (gcF W s (y * twN W s + x))) = true then 1 else 0) ≤ 2 + b01 (decide (y = 0 ∨ y = thN W H s - 1)) * (twN W s - 2) := by
    intro y hy
    by_cases hr : y = 0 ∨ y = thN W H s - 1
    · have := sumN_le (n := twN W s) (g := fun x => if (brdB W H (gcF W s (y * twN W s + x)) && opB N f (gcF W s (y * twN W s + x))) = true then 1 else 0) (h := fun _ => 1) (fun x _ => by split <;> omega)
      rw [sumN_const] at this
      simp only [hr, decide_true, b01, if_true]
      omega
    · have h2 := sumN_two (twN W s) 0 (twN W s - 1)
      have := sumN_le (n := twN W s) (g := fun x => if (brdB W H (gcF W s (y * twN W s + x)) && opB N f (gcF W s (y * twN W s + x))) = true then 1 else 0) (h := fun x => b01 (decide (x = 0 ∨ x = twN W s - 1))) (fun x hx => by
        split
        · rename_i hb
          have hb := (brdB_iff _ _ _).1 (Bool.and_eq_true_iff.1 hb).1
          have : x = 0 ∨ x = twN W s - 1 := by
            rcases hb with hb | hb | hb | hb
            all_goals
              have := edge_at hs hx hy hb
              omega
          simp [this, b01]
        · exact Nat.zero_le _)
      simp only [hr, decide_false, b01, Bool.false_eq_true, if_false]
      omega
  have h4 := sumN_le h1
  have h5 := sumN_add (thN W H s) (fun _ => 2) (fun y => b01 (decide (y = 0 ∨ y = thN W H s - 1)) * (twN W s - 2))
  have h6 := sumN_mulc (thN W H s) (twN W s - 2) (fun y => b01 (decide (y = 0 ∨ y = thN W H s - 1)))
  have h7 := sumN_two (thN W H s) 0 (thN W H s - 1)
  rw [sumN_const] at h5
  have h8 := Nat.mul_le_mul_right (twN W s - 2) h7
  refine Nat.le_trans h4 ?_
  rw [h5, h6]
  omega

/-- one cell laid as a wall -/
theorem op_wall {N : Nat} {f : Nat → Int} {i : Nat} (c : Nat) : opB N (putF f i 255) c = (opB N f c && decide (c ≠ i)) := by
  rw [Bool.eq_iff_iff, opB_iff, Bool.and_eq_true_iff, opB_iff]
  unfold putF
  by_cases h : c = i
  · simp [h]
  · simp [h]
theorem nodes_wall (W H : Int) (N : Nat) (f : Nat → Int) (s : Int) (i : Nat) : nodesL W H N (putF f i 255) s = (nodesL W H N f s).filter fun c => decide (c ≠ i) := by
  unfold nodesL
  rw [List.filter_filter]
  refine List.filter_congr fun c _ => ?_
  rw [op_wall, Bool.and_comm]
theorem nodes_congr {W H : Int} {N : Nat} {f g : Nat → Int} (s : Int) (h : ∀ i, i < N → f i = g i) : nodesL W H N f s = nodesL W H N g s := by
  unfold nodesL
  refine List.filter_congr fun c _ => ?_
  rw [Bool.eq_iff_iff, opB_iff, opB_iff, Int.toNat_natCast]
  constructor
  · rintro ⟨a, b, c'⟩; exact ⟨a, b, by rw [← h c (by omega)]; exact c'⟩
  · rintro ⟨a, b, c'⟩; exact ⟨a, b, by rw [h c (by omega)]; exact c'⟩
theorem filter_one {L : List Nat} {i : Nat} (hp : L.Pairwise (· < ·)) (hi : i ∈ L) : (L.filter fun c => decide (c ≠ i)).length + 1 = L.length ∧ i ∉ L.filter fun c => decide (c ≠ i) := by
  refine ⟨?_, fun h => by simpa using (List.mem_filter.1 h).2⟩
  induction L with
  | nil => cases hi
  | cons a L ih =>
    obtain ⟨h1, h2⟩ := List.pairwise_cons.1 hp
    by_cases e : a = i
    · subst e
      have : L.filter (fun c => decide (c ≠ a)) = L := List.filter_eq_self.2 fun c hc => by
        have := h1 c hc
        simp only [decide_eq_true_eq]
        omega
      rw [List.filter_cons_of_neg (by simp), this]
      rfl
    · rw [List.filter_cons_of_pos (by simpa using e), List.length_cons, List.length_cons]
      rcases List.mem_cons.1 hi with hi | hi
      · exact absurd hi.symm e
      · rw [ih h2 hi]
end Go.Proofs.YtgbadbkipaccgaaGreat
