/- Runs of bytes, and the three forms, in plain words. No condition. -/
import Derived.Test.YtakmiafloolpmaaDoorTMates
namespace Go.Proofs.YtakmiafloolpmaaDoor
open Go.RowKit

/-- how many of the next m, from i on, are x -/
def runK (f : Nat → Int) (x : Int) : Nat → Nat → Nat
  | 0, _ => 0
  | m + 1, i => if f i = x then 1 + runK f x m (i + 1) else 0
theorem runK_le (f : Nat → Int) (x : Int) : ∀ m i, runK f x m i ≤ m
  | 0, _ => Nat.le_refl _
  | m + 1, i => by
    have := runK_le f x m (i + 1)
    unfold runK
    split <;> omega
theorem runK_eq (f : Nat → Int) (x : Int) : ∀ m i k, k ≤ m → (∀ j, j < k → f (i + j) = x) → (k < m → f (i + k) ≠ x) → runK f x m i = k
  | 0, i, k, hk, _, _ => by simp [runK]; omega
  | m + 1, i, 0, hk, _, hx => by
    have := hx (by omega)
    simp only [Nat.add_zero] at this
    simp [runK, this]
  | m + 1, i, k + 1, hk, ha, hx => by
    have h0 := ha 0 (by omega)
    simp only [Nat.add_zero] at h0
    have := runK_eq f x m (i + 1) k (by omega) (fun j hj => by have := ha (j + 1) (by omega); rwa [show i + 1 + j = i + (j + 1) by omega]) (fun h => by have := hx (by omega); rwa [show i + 1 + k = i + (k + 1) by omega])
    simp only [runK, h0, if_true, this]
    omega
theorem runK_all (f : Nat → Int) (x : Int) : ∀ m i j, j < runK f x m i → f (i + j) = x
  | 0, i, j, h => by simp [runK] at h
  | m + 1, i, j, h => by
    unfold runK at h
    split at h
    · rename_i h0
      cases j with
      | zero => exact h0
      | succ j =>
        have := runK_all f x m (i + 1) j (by omega)
        rwa [show i + 1 + j = i + (j + 1) by omega] at this
    · omega
theorem runK_end (f : Nat → Int) (x : Int) : ∀ m i, runK f x m i < m → f (i + runK f x m i) ≠ x
  | 0, i, h => by omega
  | m + 1, i, h => by
    unfold runK at h ⊢
    split at h
    · rename_i h0
      have := runK_end f x m (i + 1) (by omega)
      rw [if_pos h0]
      rwa [show i + 1 + runK f x m (i + 1) = i + (1 + runK f x m (i + 1)) by omega] at this
    · rename_i h0
      rw [if_neg h0]
      exact h0
theorem runK_shift (f : Nat → Int) (x : Int) (d : Nat) : ∀ m i, runK (fun j => f (d + j)) x m i = runK f x m (d + i)
  | 0, i => rfl
  | m + 1, i => by
    have := runK_shift f x d m (i + 1)
    simp only [runK, this]
    rfl
theorem runK_congr {f g : Nat → Int} (x : Int) : ∀ m i, (∀ j, j < m → f (i + j) = g (i + j)) → runK f x m i = runK g x m i
  | 0, i, _ => rfl
  | m + 1, i, h => by
    have h0 := h 0 (by omega)
    simp only [Nat.add_zero] at h0
    have := runK_congr (f := f) (g := g) x m (i + 1) (fun j hj => by have := h (j + 1) (by omega); rwa [show i + 1 + j = i + (j + 1) by omega])
    simp only [runK, this, h0]

/-- the run at i, of the bytes ahead of n -/
def runF (n : Nat) (f : Nat → Int) (i : Nat) : Nat := runK f (f i) (n - i) i
theorem runF_pos {n : Nat} {f : Nat → Int} {i : Nat} (h : i < n) : 1 ≤ runF n f i := by
  unfold runF
  obtain ⟨m, hm⟩ : ∃ m, n - i = m + 1 := ⟨n - i - 1, by omega⟩
  rw [hm]
  simp [runK]
theorem runF_le (n : Nat) (f : Nat → Int) (i : Nat) : runF n f i ≤ n - i := runK_le _ _ _ _
theorem runF_all {n : Nat} {f : Nat → Int} {i j : Nat} (h : j < runF n f i) : f (i + j) = f i := runK_all _ _ _ _ _ h
theorem runF_end {n : Nat} {f : Nat → Int} {i : Nat} (h : i + runF n f i < n) : f (i + runF n f i) ≠ f i := runK_end _ _ _ _ (by unfold runF at h; omega)
theorem runF_eq {n : Nat} {f : Nat → Int} {i k : Nat} (hk : i + k ≤ n) (ha : ∀ j, j < k → f (i + j) = f i) (hx : i + k < n → f (i + k) ≠ f i) : runF n f i = k :=
  runK_eq _ _ _ _ _ (by omega) ha (fun h => hx (by omega))
theorem runF_shift (n : Nat) (f : Nat → Int) (i : Nat) : runF (n - i) (fun j => f (i + j)) 0 = runF n f i := by
  unfold runF
  rw [runK_shift]
  rfl
theorem runF_congr {n : Nat} {f g : Nat → Int} (h : ∀ i, i < n → f i = g i) (i : Nat) : runF n f i = runF n g i := by
  unfold runF
  by_cases hi : i < n
  · rw [h i hi]
    exact runK_congr _ _ _ fun j hj => h _ (by omega)
  · rw [show n - i = 0 by omega]; rfl

/-- how many runs there are from i on -/
def cntF (n : Nat) (f : Nat → Int) (i : Nat) : Nat := if _h : i < n then 1 + cntF n f (i + runF n f i) else 0
  termination_by n - i
  decreasing_by
  have := runF_pos (f := f) _h
  omega
/-- the two bytes of each run from i on -/
def runsL (n : Nat) (f : Nat → Int) (i : Nat) : List Int := if _h : i < n then ((runF n f i : Int) - 1) :: f i :: runsL n f (i + runF n f i) else []
  termination_by n - i
  decreasing_by
  have := runF_pos (f := f) _h
  omega
theorem cntF_step {n : Nat} {f : Nat → Int} {i : Nat} (h : i < n) : cntF n f i = 1 + cntF n f (i + runF n f i) := by rw [cntF, dif_pos h]
theorem cntF_end {n : Nat} {f : Nat → Int} {i : Nat} (h : ¬ i < n) : cntF n f i = 0 := by rw [cntF, dif_neg h]
theorem runsL_step {n : Nat} {f : Nat → Int} {i : Nat} (h : i < n) : runsL n f i = ((runF n f i : Int) - 1) :: f i :: runsL n f (i + runF n f i) := by rw [runsL, dif_pos h]
theorem runsL_end {n : Nat} {f : Nat → Int} {i : Nat} (h : ¬ i < n) : runsL n f i = [] := by rw [runsL, dif_neg h]
/-- each run is of one cell at least -/
theorem runs_ind {n : Nat} {f : Nat → Int} {P : Nat → Prop} (he : ∀ i, ¬ i < n → P i) (hs : ∀ i, i < n → P (i + runF n f i) → P i) (i : Nat) : P i := by
  suffices ∀ m i, n - i ≤ m → P i from this (n - i) i (Nat.le_refl _)
  intro m
  induction m with
  | zero => intro i h; exact he i (by omega)
  | succ m ih =>
    intro i h
    by_cases hi : i < n
    · have := runF_pos (f := f) hi
      exact hs i hi (ih _ (by omega))
    · exact he i hi
theorem cntF_le (n : Nat) (f : Nat → Int) (i : Nat) : cntF n f i ≤ n - i := by
  induction i using runs_ind (n := n) (f := f) with
  | he i h => rw [cntF_end h]; omega
  | hs i h ih =>
    have := runF_pos (f := f) h
    have := runF_le n f i
    rw [cntF_step h]; omega
theorem cntF_pos {n : Nat} {f : Nat → Int} {i : Nat} (h : i < n) : 1 ≤ cntF n f i := by rw [cntF_step h]; omega
theorem runsL_len (n : Nat) (f : Nat → Int) (i : Nat) : (runsL n f i).length = 2 * cntF n f i := by
  induction i using runs_ind (n := n) (f := f) with
  | he i h => rw [cntF_end h, runsL_end h]; rfl
  | hs i h ih =>
    rw [cntF_step h, runsL_step h]
    simp only [List.length_cons, ih]
    omega
theorem runsL_byte {n : Nat} {f : Nat → Int} (hf : ∀ i, i < n → 0 ≤ f i ∧ f i ≤ 255) (hn : n ≤ 256) (i : Nat) : ∀ x ∈ runsL n f i, 0 ≤ x ∧ x ≤ 255 := by
  induction i using runs_ind (n := n) (f := f) with
  | he i h => rw [runsL_end h]; simp
  | hs i h ih =>
    have := runF_pos (f := f) h
    have := runF_le n f i
    rw [runsL_step h]
    intro x hx
    simp only [List.mem_cons] at hx
    rcases hx with rfl | rfl | hx
    · omega
    · exact hf i h
    · exact ih x hx
theorem runsL_congr {n : Nat} {f g : Nat → Int} (h : ∀ i, i < n → f i = g i) (i : Nat) : runsL n f i = runsL n g i := by
  induction i using runs_ind (n := n) (f := f) with
  | he i hi => rw [runsL_end hi, runsL_end hi]
  | hs i hi ih => rw [runsL_step hi, runsL_step hi, ← runF_congr h, ih, h i hi]
theorem cntF_congr {n : Nat} {f g : Nat → Int} (h : ∀ i, i < n → f i = g i) (i : Nat) : cntF n f i = cntF n g i := by
  have := congrArg List.length (runsL_congr h i)
  rw [runsL_len, runsL_len] at this
  omega
/-- one run: all are alike -/
theorem cnt_one {n : Nat} {f : Nat → Int} (hn : 0 < n) : cntF n f 0 = 1 ↔ ∀ i, i < n → f i = f 0 := by
  rw [cntF_step hn, Nat.zero_add]
  have h1 := runF_le n f 0
  constructor
  · intro h i hi
    by_cases hr : runF n f 0 < n
    · have := cntF_pos (f := f) hr
      omega
    · have := runF_all (n := n) (f := f) (i := 0) (j := i) (by omega)
      rwa [Nat.zero_add] at this
  · intro h
    have : runF n f 0 = n := runF_eq (by omega) (fun j hj => by rw [Nat.zero_add]; exact h j hj) (by omega)
    rw [this, cntF_end (by omega)]

/-- the form of a tile's bytes -/
def formF (n : Nat) (f : Nat → Int) : Int := if cntF n f 0 = 1 then 0 else if n ≤ 2 * cntF n f 0 then 1 else 2
theorem formF_cases (n : Nat) (f : Nat → Int) : formF n f = 0 ∨ formF n f = 1 ∨ formF n f = 2 := by
  unfold formF
  split
  · exact .inl rfl
  · split
    · exact .inr (.inl rfl)
    · exact .inr (.inr rfl)
/-- a tile's bytes -/
def putL (n : Nat) (f : Nat → Int) : List Int := if cntF n f 0 = 1 then [0, f 0] else if n ≤ 2 * cntF n f 0 then 1 :: lst n f else 2 :: runsL n f 0
theorem putL_len (n : Nat) (f : Nat → Int) : (putL n f).length = if cntF n f 0 = 1 then 2 else if n ≤ 2 * cntF n f 0 then 1 + n else 1 + 2 * cntF n f 0 := by
  unfold putL
  split
  · rfl
  · split
    · rw [List.length_cons, lst_len]; omega
    · rw [List.length_cons, runsL_len]; omega
theorem putL_byte {n : Nat} {f : Nat → Int} (hf : ∀ i, i < n → 0 ≤ f i ∧ f i ≤ 255) (h0 : 0 < n) (hn : n ≤ 256) : ∀ x ∈ putL n f, 0 ≤ x ∧ x ≤ 255 := by
  unfold putL
  split
  · intro x hx
    simp only [List.mem_cons, List.not_mem_nil, or_false] at hx
    rcases hx with rfl | rfl
    · omega
    · exact hf 0 h0
  · split
    · intro x hx
      simp only [List.mem_cons, lst, List.mem_map, List.mem_range] at hx
      rcases hx with rfl | ⟨i, hi, rfl⟩
      · omega
      · exact hf i hi
    · intro x hx
      simp only [List.mem_cons] at hx
      rcases hx with rfl | hx
      · omega
      · exact runsL_byte hf hn 0 x hx
theorem putL_head (n : Nat) (f : Nat → Int) : (putL n f).getD 0 0 = formF n f := by
  unfold putL formF
  split
  · rfl
  · split <;> rfl
theorem lst_congr {n : Nat} {f g : Nat → Int} (h : ∀ i, i < n → f i = g i) : lst n f = lst n g := List.map_congr_left fun i hi => h i (List.mem_range.1 hi)
theorem putL_congr {n : Nat} {f g : Nat → Int} (h : ∀ i, i < n → f i = g i) (h0 : 0 < n) : putL n f = putL n g := by
  unfold putL
  rw [cntF_congr h, runsL_congr h, lst_congr h, h 0 h0]

/-- a list by the index -/
theorem cel_list (k : IntKind) (L : List Int) : cel k L.length (fun i => L.getD i 0) = L.map (Value.int k) := by
  apply List.ext_getElem?
  intro i
  by_cases hi : i < L.length
  · rw [cel_get _ _ _ hi, List.getElem?_map, List.getD_eq_getElem?_getD, List.getElem?_eq_getElem hi]
    rfl
  · rw [List.getElem?_eq_none (by simp [cel_len]; omega), List.getElem?_eq_none (by simp; omega)]
theorem getD_byte {L : List Int} (h : ∀ x ∈ L, 0 ≤ x ∧ x ≤ 255) : ∀ i, i < L.length → 0 ≤ L.getD i 0 ∧ L.getD i 0 ≤ 255 := by
  intro i hi
  rw [List.getD_eq_getElem?_getD, List.getElem?_eq_getElem hi]
  exact h _ (List.getElem_mem hi)
theorem lst_byF (L : List Int) : lst L.length (fun i => L.getD i 0) = L := by
  apply List.ext_getElem?
  intro i
  by_cases hi : i < L.length
  · rw [lst_get? _ _ hi, List.getD_eq_getElem?_getD, List.getElem?_eq_getElem hi]
    rfl
  · rw [List.getElem?_eq_none (by rw [lst_len]; omega), List.getElem?_eq_none (by omega)]
theorem map_one (k : IntKind) (L : List Int) : ∀ u ∈ L.map (Value.int k), u.oneCell' = true := by
  intro u hu
  obtain ⟨i, _, rfl⟩ := List.mem_map.1 hu
  rfl
theorem sameB_refl (n : Nat) (f : Nat → Int) : sameB n f n f = true := (sameB_iff _ _ _ _).2 ⟨rfl, fun _ _ => rfl⟩

/-- the slice from the i-th byte on -/
theorem Sl.drop {w : World} {b o n : Nat} {f : Nat → Int} (h : Sl w (some ⟨b, o, none⟩) n f) (i : Nat) : Sl w (some ⟨b, o + i, none⟩) (n - i) (fun j => f (i + j)) := by
  refine ⟨fun j hj => h.byte _ (by omega), ?_⟩
  by_cases hi : n - i = 0
  · exact .inl hi
  · obtain ⟨b', o', e, hb, hc⟩ := h.at (by omega)
    cases e
    exact .inr ⟨b, o + i, rfl, hb, fun j hj => by rw [show o + i + j = o + (i + j) by omega]; exact hc _ (by omega)⟩

end Go.Proofs.YtakmiafloolpmaaDoor
