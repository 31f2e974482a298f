/- A map's bytes in plain words: its sectors' tiles, how they are put, how they are read; what is put is got, and nothing else is. No condition. -/
import Derived.Test.YtakmiafloolpmaaDoorPBack
namespace Go.Proofs.YtakmiafloolpmaaDoor
open Go.RowKit

/-- how many cells a sector has; how many sectors there are -/
def tnF (W H : Int) (s : Nat) : Nat := (twF W s * thF W H s).toNat
def cntS (W H : Int) : Nat := (countF W H).toNat
/-- the cell of a sector's local -/
def gcF (W : Int) (s l : Nat) : Nat := (globalF W s l).toNat
/-- a sector's costs -/
def tileF (W : Int) (s : Nat) (f : Nat → Int) (l : Nat) : Int := f (gcF W s l)

theorem sec_of {W H : Int} {s : Nat} (h : s < cntS W H) : isSectorB W H s = true := by
  rw [count_iff]
  unfold cntS at h
  omega
theorem cntS_eq {W H : Int} (hm : mayB W H = true) : (cntS W H : Int) = acrossF W * acrossF H ∧ 1 ≤ cntS W H ∧ cntS W H ≤ 4096 := by
  have := across_mul hm
  unfold cntS countF
  rw [if_pos hm]
  omega
theorem cntS_int (W H : Int) : (cntS W H : Int) = countF W H := by
  have := count_bd W H
  unfold cntS
  omega
theorem tnF_eq {W H : Int} {s : Nat} (hs : isSectorB W H s = true) : (tnF W H s : Int) = twF W s * thF W H s ∧ 1 ≤ tnF W H s ∧ tnF W H s ≤ 256 := by
  have := localB_mul hs
  unfold tnF
  omega
theorem gcF_eq {W H : Int} {s l : Nat} (hs : isSectorB W H s = true) (hl : l < tnF W H s) : (gcF W s l : Int) = globalF W s l ∧ isCellB W H (gcF W s l) = true ∧ sectorF W (gcF W s l) = s ∧ localF W (gcF W s l) = l := by
  have ht := tnF_eq hs
  have hl' : (l : Int) < twF W s * thF W H s := by omega
  have hc := (global_cell hs (by omega : (0 : Int) ≤ l) hl').1
  have h0 := ((isCellB_iff _ _ _).1 hc).2.1
  have e : (gcF W s l : Int) = globalF W s l := by unfold gcF; omega
  rw [e]
  exact ⟨rfl, hc, global_sector hs (by omega) hl', global_local hs (by omega) hl'⟩
theorem gcF_lt {W H : Int} {s l N : Nat} (hs : isSectorB W H s = true) (hl : l < tnF W H s) (hN : (N : Int) = W * H) : gcF W s l < N := by
  have := ((isCellB_iff _ _ _).1 (gcF_eq hs hl).2.1).2.2
  omega
/-- where a cell is: its sector and its local -/
theorem cell_at {W H : Int} {N c : Nat} (hm : mayB W H = true) (hN : (N : Int) = W * H) (hc : c < N) :
    ∃ s l, s < cntS W H ∧ l < tnF W H s ∧ sectorF W c = (s : Nat) ∧ localF W c = (l : Nat) ∧ gcF W s l = c := by
  have hk : isCellB W H c = true := by rw [isCellB_iff]; exact ⟨hm, by omega, by omega⟩
  obtain ⟨-, -, hs⟩ := sectorF_mod hk
  have hl := localF_bd hk
  have hb := global_back hk
  have hs' := (isSectorB_iff _ _ _).1 hs
  obtain ⟨s, e⟩ : ∃ s : Nat, sectorF W c = s := ⟨(sectorF W c).toNat, by omega⟩
  obtain ⟨l, e2⟩ : ∃ l : Nat, localF W c = l := ⟨(localF W c).toNat, by omega⟩
  rw [e] at hs hs' hl hb
  rw [e2] at hl hb
  refine ⟨s, l, ?_, ?_, e, e2, ?_⟩
  · have := (cntS_eq hm).1
    omega
  · have := (tnF_eq hs).1
    omega
  · unfold gcF
    rw [hb]
    omega

/-- which maps may be -/
def mayM (W H : Int) (n : Nat) (f : Nat → Int) : Bool := mayB W H && decide ((n : Int) = W * H) && fullB n f
theorem mayM_iff (W H : Int) (n : Nat) (f : Nat → Int) : mayM W H n f = true ↔ mayB W H = true ∧ (n : Int) = W * H ∧ ∀ i, i < n → f i ≠ 0 := by
  simp [mayM, fullB_iff, and_assoc]
theorem tile_may {W H : Int} {n s : Nat} {f : Nat → Int} (h : mayM W H n f = true) (hs : isSectorB W H s = true) : mayTB (twF W s) (thF W H s) (tnF W H s) (tileF W s f) = true := by
  obtain ⟨hm, hn, hf⟩ := (mayM_iff _ _ _ _).1 h
  have ht := tnF_eq hs
  have sb := size_bd hs
  rw [mayTB_iff]
  exact ⟨⟨by omega, by omega⟩, ⟨by omega, by omega⟩, ht.1, fun l hl => hf _ (gcF_lt hs hl hn)⟩

/-- a map's bytes -/
def headL (W H : Int) : List Int := [W % 256, W / 256, H % 256, H / 256]
def partL (W H : Int) (f : Nat → Int) (s : Nat) : List Int := putL (tnF W H s) (tileF W s f)
def putS (W H : Int) (f : Nat → Int) : Nat → List Int
  | 0 => headL W H
  | s + 1 => putS W H f s ++ partL W H f s
def putM (W H : Int) (f : Nat → Int) : List Int := putS W H f (cntS W H)

/-- how tiles are read, one behind the other: the code, the tiles' costs, where -/
def rdS (W H : Int) (B : Nat) (b : Nat → Int) : Nat → Int × List (List Int) × Nat
  | 0 => (0, [], 4)
  | s + 1 =>
    if (rdS W H B b s).1 ≠ 0 then rdS W H B b s
    else if (getL (tnF W H s) (B - (rdS W H B b s).2.2) (fun i => b ((rdS W H B b s).2.2 + i))).1 ≠ 0 then ((getL (tnF W H s) (B - (rdS W H B b s).2.2) (fun i => b ((rdS W H B b s).2.2 + i))).1, [], 0)
    else (0, (rdS W H B b s).2.1 ++ [(getL (tnF W H s) (B - (rdS W H B b s).2.2) (fun i => b ((rdS W H B b s).2.2 + i))).2.1], (rdS W H B b s).2.2 + (getL (tnF W H s) (B - (rdS W H B b s).2.2) (fun i => b ((rdS W H B b s).2.2 + i))).2.2)
theorem rd_step {W H : Int} {B : Nat} {b : Nat → Int} {s p u : Nat} {ts : List (List Int)} {L : List Int} (h : rdS W H B b s = (0, ts, p)) (hg : getL (tnF W H s) (B - p) (fun i => b (p + i)) = (0, L, u)) : rdS W H B b (s + 1) = (0, ts ++ [L], p + u) := by
  unfold rdS
  rw [h]
  simp only [hg]
  simp
theorem rd_fail {W H : Int} {B : Nat} {b : Nat → Int} {s p : Nat} {ts : List (List Int)} (h : rdS W H B b s = (0, ts, p)) (hg : (getL (tnF W H s) (B - p) (fun i => b (p + i))).1 ≠ 0) : rdS W H B b (s + 1) = ((getL (tnF W H s) (B - p) (fun i => b (p + i))).1, [], 0) := by
  unfold rdS
  rw [h]
  simp only [ne_eq, not_true_eq_false, if_false]
  rw [if_pos hg]
theorem rd_stick {W H : Int} {B : Nat} {b : Nat → Int} {s : Nat} (h : (rdS W H B b s).1 ≠ 0) (k : Nat) : rdS W H B b (s + k) = rdS W H B b s := by
  induction k with
  | zero => rfl
  | succ k ih =>
    rw [← Nat.add_assoc]
    conv => lhs; unfold rdS
    rw [ih, if_pos h]
theorem rd_kind (W H : Int) (B : Nat) (b : Nat → Int) (s : Nat) : (rdS W H B b s).1 = 0 ∨ rdS W H B b s = (2, [], 0) ∨ rdS W H B b s = (3, [], 0) := by
  induction s with
  | zero => exact .inl rfl
  | succ s ih =>
    rcases ih with ih | ih
    · obtain ⟨ts, p, e⟩ : ∃ ts p, rdS W H B b s = (0, ts, p) := ⟨_, _, Prod.ext ih rfl⟩
      rcases getL_kind (tnF W H s) (B - p) (fun i => b (p + i)) with h | h | h
      · rw [rd_step e (Prod.ext h rfl)]; exact .inl rfl
      · rw [rd_fail e (by rw [h]; decide), h]; exact .inr (.inl rfl)
      · rw [rd_fail e (by rw [h]; decide), h]; exact .inr (.inr rfl)
    · refine .inr ?_
      have hne : (rdS W H B b s).1 ≠ 0 := by rcases ih with ih | ih <;> rw [ih] <;> decide
      rw [rd_stick hne 1]
      exact ih

/-- a map of tiles, by the cell -/
def joinF (W : Int) (ts : List (List Int)) (c : Nat) : Int := at0 (ts.getD (sectorF W c).toNat []) (localF W c).toNat
/-- as far as it is laid: all sectors ahead of s, and of s the first k locals -/
def layF (W : Int) (ts : List (List Int)) (s k c : Nat) : Int := if sectorF W c < s ∨ (sectorF W c = s ∧ localF W c < k) then joinF W ts c else 0
theorem join_at {W H : Int} {ts : List (List Int)} {s l : Nat} (hs : isSectorB W H s = true) (hl : l < tnF W H s) : joinF W ts (gcF W s l) = at0 (ts.getD s []) l := by
  obtain ⟨-, -, e1, e2⟩ := gcF_eq hs hl
  unfold joinF
  rw [e1, e2]
  rfl
theorem lay_all {W H : Int} {ts : List (List Int)} {N c : Nat} (hm : mayB W H = true) (hN : (N : Int) = W * H) (hc : c < N) : layF W ts (cntS W H) 0 c = joinF W ts c := by
  obtain ⟨s, l, h1, -, h2, -, -⟩ := cell_at hm hN hc
  unfold layF
  rw [if_pos]
  left
  rw [h2]
  omega
theorem lay_none (W : Int) (ts : List (List Int)) {H : Int} {N c : Nat} (hm : mayB W H = true) (hN : (N : Int) = W * H) (hc : c < N) : layF W ts 0 0 c = 0 := by
  obtain ⟨s, l, h1, -, h2, h3, -⟩ := cell_at hm hN hc
  unfold layF
  rw [if_neg]
  rw [h2, h3]
  omega
theorem lay_next {W H : Int} {ts : List (List Int)} {N c s : Nat} (hm : mayB W H = true) (hN : (N : Int) = W * H) (hc : c < N) : layF W ts s (tnF W H s) c = layF W ts (s + 1) 0 c := by
  obtain ⟨s', l, h1, h1', h2, h3, -⟩ := cell_at hm hN hc
  unfold layF
  rw [h2, h3]
  by_cases e : s' = s
  · subst e
    rw [if_pos (by omega), if_pos (by omega)]
  · by_cases g : s' < s
    · rw [if_pos (by omega), if_pos (by omega)]
    · rw [if_neg (by omega), if_neg (by omega)]
/-- one more local is laid -/
theorem lay_one {W H : Int} {ts : List (List Int)} {N c s k : Nat} (hm : mayB W H = true) (hN : (N : Int) = W * H) (hs : s < cntS W H) (hk : k < tnF W H s) (hc : c < N) : layF W ts s (k + 1) c = if c = gcF W s k then at0 (ts.getD s []) k else layF W ts s k c := by
  obtain ⟨-, -, e1, e2⟩ := gcF_eq (sec_of hs) hk
  by_cases e : c = gcF W s k
  · rw [if_pos e]
    subst e
    unfold layF
    rw [if_pos (by rw [e1, e2]; omega), join_at (sec_of hs) hk]
  · rw [if_neg e]
    obtain ⟨s', l, h1, h1', h2, h3, h4⟩ := cell_at hm hN hc
    have : ¬ (s' = s ∧ l = k) := by
      rintro ⟨rfl, rfl⟩
      exact e h4.symm
    unfold layF
    rw [h2, h3]
    by_cases g : s' < s ∨ s' = s ∧ l < k
    · rw [if_pos (by omega), if_pos (by omega)]
    · rw [if_neg (by omega), if_neg (by omega)]

/-- a map, as it is read: the code and its tiles -/
def wOf (b : Nat → Int) : Int := b 0 + 256 * b 1
def hOf (b : Nat → Int) : Int := b 2 + 256 * b 3
def getM (B : Nat) (b : Nat → Int) : Int × List (List Int) :=
  if B < 4 then (2, []) else if mayB (wOf b) (hOf b) = false then (3, [])
  else if (rdS (wOf b) (hOf b) B b (cntS (wOf b) (hOf b))).1 ≠ 0 then ((rdS (wOf b) (hOf b) B b (cntS (wOf b) (hOf b))).1, [])
  else if (rdS (wOf b) (hOf b) B b (cntS (wOf b) (hOf b))).2.2 ≠ B then (3, []) else (0, (rdS (wOf b) (hOf b) B b (cntS (wOf b) (hOf b))).2.1)
theorem getM_kind (B : Nat) (b : Nat → Int) : (getM B b).1 = 0 ∨ getM B b = (2, []) ∨ getM B b = (3, []) := by
  unfold getM
  split
  · exact .inr (.inl rfl)
  split
  · exact .inr (.inr rfl)
  split
  · rename_i h
    rcases rd_kind (wOf b) (hOf b) B b (cntS (wOf b) (hOf b)) with e | e | e
    · exact absurd e h
    · rw [e]; exact .inr (.inl rfl)
    · rw [e]; exact .inr (.inr rfl)
  split
  · exact .inr (.inr rfl)
  · exact .inl rfl

/-- what is read well, tile by tile: each tile's costs, and the bytes are put just so -/
theorem rd_ok {W H : Int} {B : Nat} {b : Nat → Int} (hb : ∀ i, i < B → 0 ≤ b i ∧ b i ≤ 255) (h4 : 4 ≤ B) : ∀ s ts p, s ≤ cntS W H → rdS W H B b s = (0, ts, p) →
    ts.length = s ∧ 4 ≤ p ∧ p ≤ B ∧ (∀ j, j < s → (ts.getD j []).length = tnF W H j ∧ ∀ i, i < tnF W H j → 1 ≤ at0 (ts.getD j []) i ∧ at0 (ts.getD j []) i ≤ 255) := by
  intro s
  induction s with
  | zero =>
    intro ts p _ h
    simp only [rdS, Prod.mk.injEq, true_and] at h
    obtain ⟨rfl, rfl⟩ := h
    exact ⟨rfl, Nat.le_refl _, h4, fun j hj => absurd hj (Nat.not_lt_zero _)⟩
  | succ s ih =>
    intro ts p hs h
    by_cases h0 : (rdS W H B b s).1 ≠ 0
    · rw [rd_stick h0 1] at h
      rw [h] at h0
      exact absurd rfl h0
    obtain ⟨ts0, p0, e0⟩ : ∃ ts p, rdS W H B b s = (0, ts, p) := ⟨_, _, Prod.ext (Decidable.not_not.1 h0) rfl⟩
    obtain ⟨i1, i2, i3, i4⟩ := ih ts0 p0 (by omega) e0
    by_cases hg : (getL (tnF W H s) (B - p0) (fun i => b (p0 + i))).1 ≠ 0
    · rw [rd_fail e0 hg] at h
      simp only [Prod.mk.injEq] at h
      exact absurd h.1 hg
    obtain ⟨L, u, e1⟩ : ∃ L u, getL (tnF W H s) (B - p0) (fun i => b (p0 + i)) = (0, L, u) := ⟨_, _, Prod.ext (Decidable.not_not.1 hg) rfl⟩
    rw [rd_step e0 e1] at h
    simp only [Prod.mk.injEq, true_and] at h
    obtain ⟨rfl, rfl⟩ := h
    have ht := tnF_eq (sec_of (W := W) (H := H) (s := s) (by omega))
    obtain ⟨-, -, g1, g2, g3, -⟩ := getL_ok (fun i hi => hb (p0 + i) (by omega)) ht.2.1 e1
    refine ⟨by simp [i1], by omega, by omega, fun j hj => ?_⟩
    by_cases hj' : j < s
    · have : (ts0 ++ [L]).getD j [] = ts0.getD j [] := by
        rw [List.getD_eq_getElem?_getD, List.getD_eq_getElem?_getD, List.getElem?_append_left (by omega)]
      rw [this]
      exact i4 j hj'
    · have hjs : j = s := by omega
      subst hjs
      have : (ts0 ++ [L]).getD j [] = L := by
        rw [List.getD_eq_getElem?_getD, List.getElem?_append_right (by omega), i1]
        simp
      rw [this]
      refine ⟨g1, fun i hi => g2 _ ?_⟩
      unfold at0
      rw [List.getD_eq_getElem?_getD, List.getElem?_eq_getElem (by omega)]
      exact List.getElem_mem _
theorem lst_add (n m : Nat) (f : Nat → Int) : lst (n + m) f = lst n f ++ lst m (fun i => f (n + i)) := by
  unfold lst
  rw [List.range_add, List.map_append, List.map_map]
  rfl
theorem lst_four (b : Nat → Int) : lst 4 b = [b 0, b 1, b 2, b 3] := by simp [lst, List.range_succ]
/-- what was read is put just so: F is any map whose sectors' costs are those -/
theorem rd_put {W H : Int} {B : Nat} {b F : Nat → Int} (hb : ∀ i, i < B → 0 ≤ b i ∧ b i ≤ 255) (h4 : 4 ≤ B) (hh : headL W H = lst 4 b) {n : Nat} {tn : List (List Int)} (hn : n ≤ cntS W H)
    (hF : ∀ j, j < n → ∀ i, i < tnF W H j → tileF W j F i = at0 (tn.getD j []) i) : ∀ s ts p, s ≤ n → rdS W H B b s = (0, ts, p) → (∀ j, j < s → ts.getD j [] = tn.getD j []) → putS W H F s = lst p b := by
  intro s
  induction s with
  | zero =>
    intro ts p _ h _
    simp only [rdS, Prod.mk.injEq, true_and] at h
    obtain ⟨rfl, rfl⟩ := h
    exact hh
  | succ s ih =>
    intro ts p hs h hts
    by_cases h0 : (rdS W H B b s).1 ≠ 0
    · rw [rd_stick h0 1] at h
      rw [h] at h0
      exact absurd rfl h0
    obtain ⟨ts0, p0, e0⟩ : ∃ ts p, rdS W H B b s = (0, ts, p) := ⟨_, _, Prod.ext (Decidable.not_not.1 h0) rfl⟩
    obtain ⟨i1, i2, i3, -⟩ := rd_ok hb h4 s ts0 p0 (by omega) e0
    by_cases hg : (getL (tnF W H s) (B - p0) (fun i => b (p0 + i))).1 ≠ 0
    · rw [rd_fail e0 hg] at h
      simp only [Prod.mk.injEq] at h
      exact absurd h.1 hg
    obtain ⟨L, u, e1⟩ : ∃ L u, getL (tnF W H s) (B - p0) (fun i => b (p0 + i)) = (0, L, u) := ⟨_, _, Prod.ext (Decidable.not_not.1 hg) rfl⟩
    rw [rd_step e0 e1] at h
    simp only [Prod.mk.injEq, true_and] at h
    obtain ⟨rfl, rfl⟩ := h
    have ht := tnF_eq (sec_of (W := W) (H := H) (s := s) (by omega))
    obtain ⟨-, -, -, -, -, g4⟩ := getL_ok (fun i hi => hb (p0 + i) (by omega)) ht.2.1 e1
    have hL : tn.getD s [] = L := by
      rw [← hts s (by omega), List.getD_eq_getElem?_getD, List.getElem?_append_right (by omega), i1]
      simp
    have hs' := ih ts0 p0 (by omega) e0 (fun j hj => by
      rw [← hts j (by omega), List.getD_eq_getElem?_getD, List.getD_eq_getElem?_getD, List.getElem?_append_left (by omega)])
    show putS W H F s ++ partL W H F s = _
    rw [hs', lst_add]
    congr 1
    unfold partL
    rw [putL_congr (g := at0 L) (fun i hi => by rw [hF s (by omega) i hi, hL]) (by omega), g4]
theorem head_of {b : Nat → Int} (hb : ∀ i, i < 4 → 0 ≤ b i ∧ b i ≤ 255) : headL (wOf b) (hOf b) = lst 4 b := by
  have := hb 0 (by omega)
  have := hb 1 (by omega)
  have := hb 2 (by omega)
  have := hb 3 (by omega)
  rw [lst_four]
  unfold headL wOf hOf
  simp only [List.cons.injEq, and_true]
  omega
/-- WHAT IS GOT IS PUT JUST SO. -/
theorem getM_ok {B : Nat} {b : Nat → Int} (hb : ∀ i, i < B → 0 ≤ b i ∧ b i ≤ 255) {ts : List (List Int)} (h : getM B b = (0, ts)) :
    mayB (wOf b) (hOf b) = true ∧ 4 ≤ B ∧ rdS (wOf b) (hOf b) B b (cntS (wOf b) (hOf b)) = (0, ts, B) ∧ (∀ N : Nat, (N : Int) = wOf b * hOf b → ∀ c, c < N → 1 ≤ joinF (wOf b) ts c ∧ joinF (wOf b) ts c ≤ 255) ∧ putM (wOf b) (hOf b) (joinF (wOf b) ts) = lst B b := by
  unfold getM at h
  split at h
  · simp at h
  rename_i h4
  split at h
  · simp at h
  rename_i hm0
  have hm : mayB (wOf b) (hOf b) = true := by simpa using hm0
  split at h
  · rename_i h1
    simp only [Prod.mk.injEq] at h
    exact absurd h.1 h1
  rename_i h1
  split at h
  · simp at h
  rename_i h2
  simp only [Prod.mk.injEq, true_and] at h
  have e : rdS (wOf b) (hOf b) B b (cntS (wOf b) (hOf b)) = (0, ts, B) := Prod.ext (Decidable.not_not.1 h1) (Prod.ext h (Decidable.not_not.1 h2))
  obtain ⟨r1, r2, r3, r4⟩ := rd_ok hb (by omega) _ _ _ (Nat.le_refl _) e
  refine ⟨hm, by omega, e, ?_, ?_⟩
  · intro N hN c hc
    obtain ⟨s, l, c1, c2, c3, c4, c5⟩ := cell_at hm hN hc
    rw [← c5, join_at (sec_of c1) c2]
    exact (r4 s c1).2 l c2
  · exact rd_put hb (by omega) (head_of (fun i hi => hb i (by omega))) (F := joinF (wOf b) ts) (tn := ts) (Nat.le_refl _) (fun j hj i hi => join_at (sec_of hj) hi) _ _ _ (Nat.le_refl _) e (fun _ _ => rfl)

/-! what is put is got -/
/-- the tiles of a map -/
def tilesF (W H : Int) (f : Nat → Int) (s : Nat) : List (List Int) := (List.range s).map fun j => lst (tnF W H j) (tileF W j f)
theorem tilesF_succ (W H : Int) (f : Nat → Int) (s : Nat) : tilesF W H f (s + 1) = tilesF W H f s ++ [lst (tnF W H s) (tileF W s f)] := by simp [tilesF, List.range_succ]
theorem tilesF_get {W H : Int} {f : Nat → Int} {s j : Nat} (h : j < s) : (tilesF W H f s).getD j [] = lst (tnF W H j) (tileF W j f) := by simp [tilesF, h]
theorem join_tiles {W H : Int} {f : Nat → Int} {N c : Nat} (hm : mayB W H = true) (hN : (N : Int) = W * H) (hc : c < N) : joinF W (tilesF W H f (cntS W H)) c = f c := by
  obtain ⟨s, l, c1, c2, c3, c4, c5⟩ := cell_at hm hN hc
  rw [← c5, join_at (sec_of c1) c2, tilesF_get c1, at0_lst c2]
  rfl
theorem putS_mono (W H : Int) (f : Nat → Int) (s k : Nat) : (putS W H f s).length ≤ (putS W H f (s + k)).length := by
  induction k with
  | zero => exact Nat.le_refl _
  | succ k ih =>
    rw [← Nat.add_assoc]
    show _ ≤ (putS W H f (s + k) ++ partL W H f (s + k)).length
    rw [List.length_append]
    omega
theorem putS_pre (W H : Int) (f : Nat → Int) (s k : Nat) : ∀ i, i < (putS W H f s).length → at0 (putS W H f (s + k)) i = at0 (putS W H f s) i := by
  induction k with
  | zero => intro i _; rfl
  | succ k ih =>
    intro i hi
    rw [← Nat.add_assoc]
    show at0 (putS W H f (s + k) ++ partL W H f (s + k)) i = _
    rw [at0_app_left (by have := putS_mono W H f s k; omega), ih i hi]
theorem rd_of_put {W H : Int} {N B : Nat} {f b : Nat → Int} (hm : mayM W H N f = true) (hf : ∀ i, i < N → 0 ≤ f i ∧ f i ≤ 255) (h4 : 4 ≤ B) (hb : ∀ j, j < (putM W H f).length → j < B → b j = at0 (putM W H f) j) : ∀ s, s ≤ cntS W H →
    rdS W H B b s = if B < (putS W H f s).length then (2, [], 0) else (0, tilesF W H f s, (putS W H f s).length) := by
  obtain ⟨hmb, hN, hf0⟩ := (mayM_iff _ _ _ _).1 hm
  intro s
  induction s with
  | zero =>
    intro _
    have : (putS W H f 0).length = 4 := rfl
    rw [this, if_neg (by omega)]
    rfl
  | succ s ih =>
    intro hs
    have ih := ih (by omega)
    have hl : (putS W H f (s + 1)).length = (putS W H f s).length + (partL W H f s).length := List.length_append
    by_cases h1 : B < (putS W H f s).length
    · rw [if_pos h1] at ih
      rw [if_pos (by omega), rd_stick (by rw [ih]; decide) 1, ih]
    rw [if_neg h1] at ih
    have hs1 := sec_of (W := W) (H := H) (s := s) (by omega)
    have ht := tnF_eq hs1
    have hg := get_put (n := tnF W H s) (B := B - (putS W H f s).length) (f := tileF W s f) (b := fun i => b ((putS W H f s).length + i)) ht.2.1
      (fun i hi => by
        have hc := gcF_lt hs1 hi hN
        have h1 := hf _ hc
        have h2 := hf0 _ hc
        unfold tileF
        omega)
      (fun j hj hjB => by
        have hj' : j < (partL W H f s).length := hj
        have hmono := putS_mono W H f (s + 1) (cntS W H - (s + 1))
        rw [show s + 1 + (cntS W H - (s + 1)) = cntS W H by omega] at hmono
        have hpre := putS_pre W H f (s + 1) (cntS W H - (s + 1)) ((putS W H f s).length + j) (by omega)
        rw [show s + 1 + (cntS W H - (s + 1)) = cntS W H by omega] at hpre
        show b ((putS W H f s).length + j) = _
        rw [hb _ (by unfold putM; omega) (by omega)]
        unfold putM
        rw [hpre]
        show at0 (putS W H f s ++ partL W H f s) _ = _
        rw [at0_app_right]
        rfl)
    have hp : (putL (tnF W H s) (tileF W s f)).length = (partL W H f s).length := rfl
    rw [hp] at hg
    by_cases h2 : B - (putS W H f s).length < (partL W H f s).length
    · rw [if_pos h2] at hg
      rw [if_pos (by omega), rd_fail ih (by rw [hg]; decide), hg]
    · rw [if_neg h2] at hg
      rw [if_neg (by omega), rd_step ih hg, tilesF_succ, hl]
theorem putS_byte {W H : Int} {N : Nat} {f : Nat → Int} (hm : mayM W H N f = true) (hf : ∀ i, i < N → 0 ≤ f i ∧ f i ≤ 255) : ∀ s, s ≤ cntS W H → 4 + 2 * s ≤ (putS W H f s).length ∧ (putS W H f s).length ≤ 4 + 257 * s ∧ ∀ x ∈ putS W H f s, 0 ≤ x ∧ x ≤ 255 := by
  obtain ⟨hmb, hN, hf0⟩ := (mayM_iff _ _ _ _).1 hm
  obtain ⟨m1, m2, m3, m4⟩ := (mayB_iff _ _).1 hmb
  intro s
  induction s with
  | zero =>
    intro _
    refine ⟨Nat.le_refl _, Nat.le_refl _, fun x hx => ?_⟩
    simp only [putS, headL, List.mem_cons, List.not_mem_nil, or_false] at hx
    rcases hx with rfl | rfl | rfl | rfl <;> omega
  | succ s ih =>
    intro hs
    obtain ⟨i1, i2, i3⟩ := ih (by omega)
    have hs1 := sec_of (W := W) (H := H) (s := s) (by omega)
    have ht := tnF_eq hs1
    have hb : ∀ i, i < tnF W H s → 0 ≤ tileF W s f i ∧ tileF W s f i ≤ 255 := fun i hi => hf _ (gcF_lt hs1 hi hN)
    have hl := putL_len (tnF W H s) (tileF W s f)
    have hc := cntF_pos (n := tnF W H s) (f := tileF W s f) (i := 0) (by omega)
    have hlen : 2 ≤ (partL W H f s).length ∧ (partL W H f s).length ≤ 257 := by
      unfold partL
      rw [hl]
      split
      · omega
      · split <;> omega
    have hpb := putL_byte hb (by omega) ht.2.2
    have e : (putS W H f (s + 1)).length = (putS W H f s).length + (partL W H f s).length := List.length_append
    refine ⟨by omega, by omega, fun x hx => ?_⟩
    rcases List.mem_append.1 hx with hx | hx
    · exact i3 x hx
    · exact hpb x hx
/-- WHAT IS PUT IS GOT; cut off, it is too short; with more behind it, it is of no form. -/
theorem getM_put {W H : Int} {N B : Nat} {f b : Nat → Int} (hm : mayM W H N f = true) (hf : ∀ i, i < N → 0 ≤ f i ∧ f i ≤ 255) (hb : ∀ j, j < (putM W H f).length → j < B → b j = at0 (putM W H f) j) :
    getM B b = (if B < (putM W H f).length then (2, []) else if B = (putM W H f).length then (0, tilesF W H f (cntS W H)) else (3, [])) ∧ (4 ≤ B → wOf b = W ∧ hOf b = H) := by
  obtain ⟨hmb, hN, hf0⟩ := (mayM_iff _ _ _ _).1 hm
  obtain ⟨m1, m2, m3, m4⟩ := (mayB_iff _ _).1 hmb
  have hc := cntS_eq hmb
  obtain ⟨p1, p2, p3⟩ := putS_byte hm hf (cntS W H) (Nat.le_refl _)
  have hP : (putM W H f).length = (putS W H f (cntS W H)).length := rfl
  by_cases h4 : B < 4
  · refine ⟨?_, fun h => absurd h (by omega)⟩
    rw [if_pos (by omega)]
    unfold getM
    rw [if_pos h4]
  have hd : ∀ j, j < 4 → b j = at0 (headL W H) j := by
    intro j hj
    rw [hb j (by omega) (by omega)]
    have := putS_pre W H f 0 (cntS W H) j (by show j < 4; exact hj)
    rw [Nat.zero_add] at this
    exact this
  have w0 : wOf b = W := by
    unfold wOf
    rw [hd 0 (by omega), hd 1 (by omega)]
    show W % 256 + 256 * (W / 256) = W
    omega
  have w1 : hOf b = H := by
    unfold hOf
    rw [hd 2 (by omega), hd 3 (by omega)]
    show H % 256 + 256 * (H / 256) = H
    omega
  refine ⟨?_, fun _ => ⟨w0, w1⟩⟩
  have hr := rd_of_put hm hf (by omega) hb (cntS W H) (Nat.le_refl _)
  unfold getM
  rw [if_neg h4, w0, w1, hmb, if_neg (by simp)]
  rw [hr, ← hP]
  by_cases h5 : B < (putM W H f).length
  · rw [if_pos h5, if_pos h5, if_pos (by simp)]
  · rw [if_neg h5, if_neg h5, if_neg (by simp)]
    by_cases h6 : B = (putM W H f).length
    · rw [if_pos h6, if_neg (by simp [h6])]
    · rw [if_neg h6, if_pos (by simp; omega)]

end Go.Proofs.YtakmiafloolpmaaDoor
