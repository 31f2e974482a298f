/- How a tile's bytes are read, in plain words; what is put is got, and nothing else is. No condition. -/
import Derived.Test.YtakmiafloolpmaaDoorPMath
namespace Go.Proofs.YtakmiafloolpmaaDoor
open Go.RowKit

/-- a list by the index -/
def at0 (L : List Int) (i : Nat) : Int := L.getD i 0

/-- the runs of form 2, from the byte 'p' on, the costs so far in 'acc': the code, the costs, how many bytes -/
def decR (n B : Nat) (b : Nat → Int) (p : Nat) (acc : List Int) : Int × List Int × Nat :=
  if _h : n ≤ acc.length then (0, acc, p)
  else if B < p + 2 then (2, [], 0)
  else if b (p + 1) = 0 ∨ n < acc.length + ((b p).toNat + 1) ∨ acc.getLast? = some (b (p + 1)) then (3, [], 0)
  else decR n B b (p + 2) (acc ++ List.replicate ((b p).toNat + 1) (b (p + 1)))
  termination_by n - acc.length
  decreasing_by
  rw [List.length_append, List.length_replicate]
  omega
theorem decR_end {n B : Nat} {b : Nat → Int} {p : Nat} {acc : List Int} (h : n ≤ acc.length) : decR n B b p acc = (0, acc, p) := by rw [decR, dif_pos h]
theorem decR_short {n B : Nat} {b : Nat → Int} {p : Nat} {acc : List Int} (h : ¬ n ≤ acc.length) (h2 : B < p + 2) : decR n B b p acc = (2, [], 0) := by rw [decR, dif_neg h, if_pos h2]
theorem decR_bad {n B : Nat} {b : Nat → Int} {p : Nat} {acc : List Int} (h : ¬ n ≤ acc.length) (h2 : ¬ B < p + 2) (h3 : b (p + 1) = 0 ∨ n < acc.length + ((b p).toNat + 1) ∨ acc.getLast? = some (b (p + 1))) : decR n B b p acc = (3, [], 0) := by rw [decR, dif_neg h, if_neg h2, if_pos h3]
theorem decR_step {n B : Nat} {b : Nat → Int} {p : Nat} {acc : List Int} (h : ¬ n ≤ acc.length) (h2 : ¬ B < p + 2) (h3 : ¬ (b (p + 1) = 0 ∨ n < acc.length + ((b p).toNat + 1) ∨ acc.getLast? = some (b (p + 1)))) :
    decR n B b p acc = decR n B b (p + 2) (acc ++ List.replicate ((b p).toNat + 1) (b (p + 1))) := by rw [decR, dif_neg h, if_neg h2, if_neg h3]

/-- all costs, as they are read -/
def readL (n B : Nat) (b : Nat → Int) : Int × List Int × Nat :=
  if B = 0 then (2, [], 0)
  else if b 0 = 0 then (if B < 2 then (2, [], 0) else if b 1 = 0 then (3, [], 0) else (0, List.replicate n (b 1), 2))
  else if b 0 = 1 then (if B < 1 + n then (2, [], 0) else if fullB n (fun i => b (1 + i)) = true then (0, lst n (fun i => b (1 + i)), 1 + n) else (3, [], 0))
  else if b 0 = 2 then decR n B b 1 []
  else (3, [], 0)
/-- a tile, as it is read -/
def getL (n B : Nat) (b : Nat → Int) : Int × List Int × Nat :=
  if (readL n B b).1 ≠ 0 then readL n B b else if formF n (at0 (readL n B b).2.1) ≠ b 0 then (3, [], 0) else readL n B b

/-- each outcome: all went well, or nothing is told but the code -/
theorem decR_kind {n B : Nat} {b : Nat → Int} (p : Nat) (acc : List Int) : (decR n B b p acc).1 = 0 ∨ decR n B b p acc = (2, [], 0) ∨ decR n B b p acc = (3, [], 0) := by
  suffices ∀ m p acc, n - acc.length ≤ m → ((decR n B b p acc).1 = 0 ∨ decR n B b p acc = (2, [], 0) ∨ decR n B b p acc = (3, [], 0)) from this _ p acc (Nat.le_refl _)
  intro m
  induction m with
  | zero => intro p acc h; rw [decR_end (by omega)]; exact .inl rfl
  | succ m ih =>
    intro p acc h
    by_cases h1 : n ≤ acc.length
    · rw [decR_end h1]; exact .inl rfl
    by_cases h2 : B < p + 2
    · rw [decR_short h1 h2]; exact .inr (.inl rfl)
    by_cases h3 : b (p + 1) = 0 ∨ n < acc.length + ((b p).toNat + 1) ∨ acc.getLast? = some (b (p + 1))
    · rw [decR_bad h1 h2 h3]; exact .inr (.inr rfl)
    rw [decR_step h1 h2 h3]
    exact ih _ _ (by rw [List.length_append, List.length_replicate]; omega)
theorem readL_kind (n B : Nat) (b : Nat → Int) : (readL n B b).1 = 0 ∨ readL n B b = (2, [], 0) ∨ readL n B b = (3, [], 0) := by
  unfold readL
  split
  · exact .inr (.inl rfl)
  split
  · split
    · exact .inr (.inl rfl)
    split
    · exact .inr (.inr rfl)
    · exact .inl rfl
  split
  · split
    · exact .inr (.inl rfl)
    split
    · exact .inl rfl
    · exact .inr (.inr rfl)
  split
  · exact decR_kind _ _
  · exact .inr (.inr rfl)
theorem getL_kind (n B : Nat) (b : Nat → Int) : (getL n B b).1 = 0 ∨ getL n B b = (2, [], 0) ∨ getL n B b = (3, [], 0) := by
  unfold getL
  split
  · exact readL_kind n B b
  split
  · exact .inr (.inr rfl)
  · exact readL_kind n B b

/-- what was read so far is written so, whatever run comes next -/
def Writ (b : Nat → Int) (p : Nat) (acc : List Int) : Prop :=
  ∀ rest : List Int, (∀ x, rest.head? = some x → acc.getLast? ≠ some x) → runsL (acc ++ rest).length (at0 (acc ++ rest)) 0 = lst (p - 1) (fun i => b (1 + i)) ++ runsL (acc ++ rest).length (at0 (acc ++ rest)) acc.length
theorem writ_nil (b : Nat → Int) : Writ b 1 [] := by
  intro rest _
  rfl
theorem at0_app_left {A R : List Int} {i : Nat} (h : i < A.length) : at0 (A ++ R) i = at0 A i := by
  unfold at0
  rw [List.getD_eq_getElem?_getD, List.getD_eq_getElem?_getD, List.getElem?_append_left h]
theorem at0_app_right {A R : List Int} {i : Nat} : at0 (A ++ R) (A.length + i) = at0 R i := by
  unfold at0
  rw [List.getD_eq_getElem?_getD, List.getD_eq_getElem?_getD, List.getElem?_append_right (by omega), Nat.add_sub_cancel_left]
theorem at0_rep {k i : Nat} {x : Int} (h : i < k) : at0 (List.replicate k x) i = x := by
  unfold at0
  rw [List.getD_eq_getElem?_getD, List.getElem?_replicate, if_pos h]
  rfl
theorem at0_head {R : List Int} (h : 0 < R.length) : R.head? = some (at0 R 0) := by
  cases R with
  | nil => simp at h
  | cons x r => rfl
/-- the run behind 'acc': k times c, and then another, or none -/
theorem runF_app {acc rest : List Int} {k : Nat} {c : Int} (hk : 0 < k) (hr : ∀ x, rest.head? = some x → c ≠ x) :
    runF (acc ++ (List.replicate k c ++ rest)).length (at0 (acc ++ (List.replicate k c ++ rest))) acc.length = k ∧ at0 (acc ++ (List.replicate k c ++ rest)) acc.length = c := by
  have e0 : at0 (acc ++ (List.replicate k c ++ rest)) acc.length = c := by
    have := at0_app_right (A := acc) (R := List.replicate k c ++ rest) (i := 0)
    rw [Nat.add_zero] at this
    rw [this, at0_app_left (by simpa using hk), at0_rep hk]
  refine ⟨?_, e0⟩
  refine runF_eq (by simp) (fun j hj => ?_) (fun h => ?_)
  · rw [e0, at0_app_right, at0_app_left (by simpa using hj), at0_rep hj]
  · rw [e0, at0_app_right]
    have hl : 0 < rest.length := by simp at h; omega
    have := at0_app_right (A := List.replicate k c) (R := rest) (i := 0)
    rw [List.length_replicate, Nat.add_zero] at this
    rw [this]
    exact fun e => hr _ (at0_head hl) e.symm
theorem lst_two (b : Nat → Int) (m : Nat) : lst (m + 2) b = lst m b ++ [b m, b (m + 1)] := by simp [lst, List.range_succ]
theorem writ_step {b : Nat → Int} {p : Nat} {acc : List Int} (h : Writ b p acc) (hp : 1 ≤ p) (h0 : 0 ≤ b p) (hl : acc.getLast? ≠ some (b (p + 1))) : Writ b (p + 2) (acc ++ List.replicate ((b p).toNat + 1) (b (p + 1))) := by
  intro rest hr
  have hlast : (acc ++ List.replicate ((b p).toNat + 1) (b (p + 1))).getLast? = some (b (p + 1)) := by simp [List.getLast?_append, List.getLast?_replicate]
  rw [hlast] at hr
  have h1 := h (List.replicate ((b p).toNat + 1) (b (p + 1)) ++ rest) (by
    intro x hx
    have : x = b (p + 1) := by simpa [List.replicate_succ] using hx.symm
    rw [this]
    exact hl)
  obtain ⟨e1, e2⟩ := runF_app (acc := acc) (rest := rest) (k := (b p).toNat + 1) (c := b (p + 1)) (by omega) (fun x hx e => hr x hx (by rw [e]))
  have hlt : acc.length < (acc ++ (List.replicate ((b p).toNat + 1) (b (p + 1)) ++ rest)).length := by simp; omega
  rw [runsL_step hlt, e1, e2] at h1
  have hlen : (acc ++ List.replicate ((b p).toNat + 1) (b (p + 1))).length = acc.length + ((b p).toNat + 1) := by simp
  rw [List.append_assoc, h1, hlen]
  have hpe : p + 2 - 1 = (p - 1) + 2 := by omega
  rw [hpe, lst_two, List.append_assoc]
  have a1 : 1 + (p - 1) = p := by omega
  have a2 : 1 + (p - 1 + 1) = p + 1 := by omega
  have a3 : (((b p).toNat + 1 : Nat) : Int) - 1 = b p := by omega
  simp only [a1, a2, a3, List.cons_append, List.nil_append]

/-- what form 2 is read as is written so, and in no other way -/
theorem decR_ok {n B : Nat} {b : Nat → Int} (hb : ∀ i, i < B → 0 ≤ b i ∧ b i ≤ 255) : ∀ m p acc L u, n - acc.length ≤ m → decR n B b p acc = (0, L, u) → Writ b p acc → 1 ≤ p → p ≤ max B 1 → acc.length ≤ n → (∀ x ∈ acc, 1 ≤ x ∧ x ≤ 255) →
    L.length = n ∧ runsL n (at0 L) 0 = lst (u - 1) (fun i => b (1 + i)) ∧ 1 ≤ u ∧ u ≤ max B 1 ∧ (∀ x ∈ L, 1 ≤ x ∧ x ≤ 255) := by
  intro m
  induction m with
  | zero =>
    intro p acc L u hm hd hw h1 hp hl ha
    rw [decR_end (by omega)] at hd
    simp only [Prod.mk.injEq, true_and] at hd
    obtain ⟨rfl, rfl⟩ := hd
    have hn : acc.length = n := by omega
    have := hw [] (by simp)
    rw [List.append_nil, runsL_end (i := acc.length) (by omega), List.append_nil, hn] at this
    exact ⟨hn, this, h1, hp, ha⟩
  | succ m ih =>
    intro p acc L u hm hd hw h1 hp hl ha
    by_cases h2 : n ≤ acc.length
    · rw [decR_end h2] at hd
      simp only [Prod.mk.injEq, true_and] at hd
      obtain ⟨rfl, rfl⟩ := hd
      have hn : acc.length = n := by omega
      have := hw [] (by simp)
      rw [List.append_nil, runsL_end (i := acc.length) (by omega), List.append_nil, hn] at this
      exact ⟨hn, this, h1, hp, ha⟩
    by_cases h3 : B < p + 2
    · rw [decR_short h2 h3] at hd
      simp at hd
    by_cases h4 : b (p + 1) = 0 ∨ n < acc.length + ((b p).toNat + 1) ∨ acc.getLast? = some (b (p + 1))
    · rw [decR_bad h2 h3 h4] at hd
      simp at hd
    rw [decR_step h2 h3 h4] at hd
    have q0 := hb p (by omega)
    have q1 := hb (p + 1) (by omega)
    have hlen : (acc ++ List.replicate ((b p).toNat + 1) (b (p + 1))).length = acc.length + ((b p).toNat + 1) := by simp
    refine ih (p + 2) _ L u (by rw [hlen]; omega) hd (writ_step hw h1 q0.1 (fun e => h4 (.inr (.inr e)))) (by omega) (by omega) (by rw [hlen]; omega) ?_
    intro x hx
    rcases List.mem_append.1 hx with hx | hx
    · exact ha x hx
    · rw [(List.mem_replicate.1 hx).2]
      have : b (p + 1) ≠ 0 := fun e => h4 (.inl e)
      omega

theorem lst_at0 (L : List Int) : lst L.length (at0 L) = L := lst_byF L
theorem at0_lst {n : Nat} {f : Nat → Int} {i : Nat} (h : i < n) : at0 (lst n f) i = f i := by
  unfold at0
  exact lst_get n f h
theorem lst_succ (n : Nat) (f : Nat → Int) : lst (n + 1) f = lst n f ++ [f n] := by simp [lst, List.range_succ]
theorem lst_cons (n : Nat) (f : Nat → Int) : lst (1 + n) f = f 0 :: lst n (fun i => f (1 + i)) := by
  rw [Nat.add_comm]
  simp [lst, List.range_succ_eq_map, Nat.add_comm]
theorem formF_congr {n : Nat} {f g : Nat → Int} (h : ∀ i, i < n → f i = g i) : formF n f = formF n g := by unfold formF; rw [cntF_congr h]
theorem formF_of_ne {n : Nat} {f : Nat → Int} : (formF n f = 0 ↔ cntF n f 0 = 1) ∧ (formF n f = 1 ↔ ¬ cntF n f 0 = 1 ∧ n ≤ 2 * cntF n f 0) ∧ (formF n f = 2 ↔ ¬ cntF n f 0 = 1 ∧ ¬ n ≤ 2 * cntF n f 0) := by
  unfold formF
  split
  · simp_all
  · split <;> simp_all

/-- what is read well: as many costs as there are cells, none of them 0; in its form it is written so -/
theorem readL_ok {n B : Nat} {b : Nat → Int} (hb : ∀ i, i < B → 0 ≤ b i ∧ b i ≤ 255) (hn : 1 ≤ n) {L : List Int} {u : Nat} (h : readL n B b = (0, L, u)) :
    L.length = n ∧ (∀ x ∈ L, 1 ≤ x ∧ x ≤ 255) ∧ u ≤ B ∧ 1 ≤ u ∧ 0 < B ∧ ((b 0 = 0 ∧ cntF n (at0 L) 0 = 1 ∧ lst u b = [0, at0 L 0]) ∨ (b 0 = 1 ∧ lst u b = 1 :: lst n (at0 L)) ∨ (b 0 = 2 ∧ lst u b = 2 :: runsL n (at0 L) 0)) := by
  unfold readL at h
  split at h
  · simp at h
  rename_i hB
  split at h
  · rename_i h0
    split at h
    · simp at h
    rename_i h2
    split at h
    · simp at h
    rename_i h1
    simp only [Prod.mk.injEq, true_and] at h
    obtain ⟨rfl, rfl⟩ := h
    have q := hb 1 (by omega)
    refine ⟨by simp, fun x hx => ?_, by omega, by omega, by omega, .inl ⟨h0, ?_, ?_⟩⟩
    · rw [(List.mem_replicate.1 hx).2]; omega
    · rw [cnt_one (by omega)]
      intro i hi
      rw [at0_rep hi, at0_rep (by omega)]
    · rw [at0_rep (by omega)]
      simp [lst, List.range_succ, h0]
  split at h
  · rename_i h0 h1
    split at h
    · simp at h
    rename_i h2
    split at h
    · rename_i h3
      simp only [Prod.mk.injEq, true_and] at h
      obtain ⟨rfl, rfl⟩ := h
      have hf := (fullB_iff _ _).1 h3
      refine ⟨lst_len _ _, fun x hx => ?_, by omega, by omega, by omega, .inr (.inl ⟨h1, ?_⟩)⟩
      · simp only [lst, List.mem_map, List.mem_range] at hx
        obtain ⟨i, hi, rfl⟩ := hx
        have := hf i hi
        have := hb (1 + i) (by omega)
        omega
      · rw [lst_cons, h1, lst_congr (fun i hi => at0_lst hi)]
    · simp at h
  split at h
  · rename_i h0 h1 h2
    have := decR_ok hb _ 1 [] L u (Nat.le_refl _) h (writ_nil b) (by omega) (by omega) (by simp) (by simp)
    obtain ⟨e1, e2, e3, e4, e5⟩ := this
    refine ⟨e1, e5, by omega, e3, by omega, .inr (.inr ⟨h2, ?_⟩)⟩
    obtain ⟨v, rfl⟩ : ∃ v, u = 1 + v := ⟨u - 1, by omega⟩
    rw [lst_cons, h2, e2]
    rw [Nat.add_sub_cancel_left]
  · simp at h

/-- Put writes it so just where its form is the one that was read -/
theorem read_put {n B : Nat} {b : Nat → Int} (hb : ∀ i, i < B → 0 ≤ b i ∧ b i ≤ 255) (hn : 1 ≤ n) {L : List Int} {u : Nat} (h : readL n B b = (0, L, u)) : putL n (at0 L) = lst u b ↔ formF n (at0 L) = b 0 := by
  obtain ⟨e1, e2, e3, e4, e5, e6⟩ := readL_ok hb hn h
  have hc0 := cntF_pos (n := n) (f := at0 L) (i := 0) (by omega)
  constructor
  · intro e
    have := congrArg (fun l => l.getD 0 0) e
    simp only [putL_head] at this
    rw [this, lst_get u b (by omega)]
  · intro e
    obtain ⟨f0, f1, f2⟩ := formF_of_ne (n := n) (f := at0 L)
    rcases e6 with ⟨q, q1, q2⟩ | ⟨q, q2⟩ | ⟨q, q2⟩
    · unfold putL
      rw [if_pos q1, q2]
    · rw [q] at e
      obtain ⟨c1, c2⟩ := f1.1 e
      unfold putL
      rw [if_neg c1, if_pos c2, q2]
    · rw [q] at e
      obtain ⟨c1, c2⟩ := f2.1 e
      unfold putL
      rw [if_neg c1, if_neg c2, q2]
/-- what is got is put just so -/
theorem getL_ok {n B : Nat} {b : Nat → Int} (hb : ∀ i, i < B → 0 ≤ b i ∧ b i ≤ 255) (hn : 1 ≤ n) {L : List Int} {u : Nat} (h : getL n B b = (0, L, u)) :
    readL n B b = (0, L, u) ∧ formF n (at0 L) = b 0 ∧ L.length = n ∧ (∀ x ∈ L, 1 ≤ x ∧ x ≤ 255) ∧ u ≤ B ∧ putL n (at0 L) = lst u b := by
  unfold getL at h
  split at h
  · rename_i h1
    rw [h] at h1
    exact absurd rfl h1
  split at h
  · simp at h
  rename_i h1 h2
  have hr : readL n B b = (0, L, u) := h
  rw [hr] at h2
  have hf : formF n (at0 L) = b 0 := Decidable.not_not.1 h2
  obtain ⟨e1, e2, e3, e4, e5, e6⟩ := readL_ok hb hn hr
  exact ⟨hr, hf, e1, e2, e3, (read_put hb hn hr).2 hf⟩

/-! what is put is got -/
theorem lst_run {n : Nat} {f : Nat → Int} {i : Nat} : lst (i + runF n f i) f = lst i f ++ List.replicate (runF n f i) (f i) := by
  have : ∀ k, k ≤ runF n f i → lst (i + k) f = lst i f ++ List.replicate k (f i) := by
    intro k
    induction k with
    | zero => intro _; simp
    | succ k ih =>
      intro hk
      rw [← Nat.add_assoc, lst_succ, ih (by omega), runF_all (n := n) (f := f) (i := i) (j := k) (by omega), List.append_assoc, List.replicate_succ']
  exact this _ (Nat.le_refl _)
theorem lst_last {i : Nat} {f : Nat → Int} (h : 0 < i) : (lst i f).getLast? = some (f (i - 1)) := by
  obtain ⟨k, rfl⟩ : ∃ k, i = k + 1 := ⟨i - 1, by omega⟩
  rw [lst_succ]
  simp
/-- the bytes of the runs from i on, from the byte p on, as far as they are there: they are read; cut off they are too short -/
theorem dec_runs {n B : Nat} {f b : Nat → Int} (hf : ∀ i, i < n → 1 ≤ f i ∧ f i ≤ 255) (i : Nat) : ∀ p, i ≤ n → (∀ j, j < (runsL n f i).length → p + j < B → b (p + j) = at0 (runsL n f i) j) → (0 < i → i < n → f i ≠ f (i - 1)) →
    decR n B b p (lst i f) = if i < n ∧ B < p + (runsL n f i).length then (2, [], 0) else (0, lst n f, p + (runsL n f i).length) := by
  induction i using runs_ind (n := n) (f := f) with
  | he i hi =>
    intro p hin _ _
    rw [decR_end (by rw [lst_len]; omega), if_neg (by omega), runsL_end hi, show i = n by omega]
    rfl
  | hs i hi ih =>
    intro p hin hbytes hedge
    have hr1 := runF_pos (f := f) hi
    have hr2 := runF_le n f i
    have hlen : (runsL n f i).length = 2 + (runsL n f (i + runF n f i)).length := by rw [runsL_step hi]; simp; omega
    have hnl : ¬ n ≤ (lst i f).length := by rw [lst_len]; omega
    by_cases hB : B < p + 2
    · rw [decR_short hnl hB, if_pos ⟨hi, by omega⟩]
    have b0 := hbytes 0 (by omega) (by omega)
    have b1 := hbytes 1 (by omega) (by omega)
    rw [runsL_step hi] at b0 b1
    have b0' : b p = (runF n f i : Int) - 1 := b0
    have b1' : b (p + 1) = f i := b1
    have hk : (b p).toNat + 1 = runF n f i := by rw [b0']; omega
    have hfi := hf i hi
    have h3 : ¬ (b (p + 1) = 0 ∨ n < (lst i f).length + ((b p).toNat + 1) ∨ (lst i f).getLast? = some (b (p + 1))) := by
      rw [hk, b1', lst_len]
      rintro (h | h | h)
      · omega
      · omega
      · by_cases h0 : 0 < i
        · rw [lst_last h0] at h
          exact hedge h0 hi (Option.some.inj h).symm
        · rw [show i = 0 by omega] at h
          simp [lst] at h
    rw [decR_step hnl hB h3, hk, b1', ← lst_run]
    rw [ih (p + 2) (by omega) ?_ ?_]
    · by_cases hnext : i + runF n f i < n
      · by_cases hc : B < p + 2 + (runsL n f (i + runF n f i)).length
        · rw [if_pos ⟨hnext, hc⟩, if_pos ⟨hi, by omega⟩]
        · rw [if_neg (by omega), if_neg (by omega), hlen, Nat.add_assoc]
      · have e := runsL_end (f := f) hnext
        rw [if_neg (by omega), if_neg (by rw [hlen, e]; simp; omega), hlen, e, Nat.add_assoc]
    · intro j hj hjB
      have := hbytes (2 + j) (by omega) (by omega)
      rw [runsL_step hi] at this
      rw [← Nat.add_assoc] at this
      rw [this]
      unfold at0
      rw [Nat.add_comm 2 j]
      rfl
    · intro h0 hlt
      have e1 := runF_end (n := n) (f := f) (i := i) hlt
      have e2 := runF_all (n := n) (f := f) (i := i) (j := runF n f i - 1) (by omega)
      rw [show i + (runF n f i - 1) = i + runF n f i - 1 by omega] at e2
      rw [e2]
      exact e1

/-- WHAT IS PUT IS GOT, whatever stands behind it; cut off, it is too short. -/
theorem get_put {n B : Nat} {f b : Nat → Int} (hn : 1 ≤ n) (hf : ∀ i, i < n → 1 ≤ f i ∧ f i ≤ 255) (hb : ∀ j, j < (putL n f).length → j < B → b j = at0 (putL n f) j) :
    getL n B b = if B < (putL n f).length then (2, [], 0) else (0, lst n f, (putL n f).length) := by
  have hc0 := cntF_pos (n := n) (f := f) (i := 0) (by omega)
  have hlen := putL_len n f
  have key : readL n B b = if B < (putL n f).length then (2, [], 0) else (0, lst n f, (putL n f).length) := by
    by_cases hB : B = 0
    · unfold readL
      rw [if_pos hB, if_pos]
      rw [hlen]
      split
      · omega
      · split <;> omega
    have h0 := hb 0 (by rw [hlen]; split; omega; split <;> omega) (by omega)
    have hh : b 0 = formF n f := by rw [h0]; exact putL_head n f
    by_cases c1 : cntF n f 0 = 1
    · rw [if_pos c1] at hlen
      have P : putL n f = [0, f 0] := by unfold putL; rw [if_pos c1]
      have hz : b 0 = 0 := by rw [hh]; unfold formF; rw [if_pos c1]
      unfold readL
      rw [if_neg hB, if_pos hz, hlen]
      by_cases hs : B < 2
      · rw [if_pos hs, if_pos hs]
      · have h1 := hb 1 (by omega) (by omega)
        rw [P] at h1
        have h1' : b 1 = f 0 := h1
        have := hf 0 (by omega)
        rw [if_neg hs, if_neg hs, if_neg (by omega), h1']
        have e : lst n f = List.replicate n (f 0) := by
          have al := (cnt_one (n := n) (f := f) (by omega)).1 c1
          rw [lst_congr al]
          simp [lst, List.map_const']
        rw [e]
    · rw [if_neg c1] at hlen
      by_cases c2 : n ≤ 2 * cntF n f 0
      · rw [if_pos c2] at hlen
        have P : putL n f = 1 :: lst n f := by unfold putL; rw [if_neg c1, if_pos c2]
        have hz : b 0 = 1 := by rw [hh]; unfold formF; rw [if_neg c1, if_pos c2]
        unfold readL
        rw [if_neg hB, if_neg (by omega), if_pos hz, hlen]
        by_cases hs : B < 1 + n
        · rw [if_pos hs, if_pos hs]
        · have he : ∀ i, i < n → b (1 + i) = f i := by
            intro i hi
            rw [hb (1 + i) (by omega) (by omega), P, Nat.add_comm]
            exact at0_lst hi
          rw [if_neg hs, if_neg hs, if_pos ((fullB_iff _ _).2 (fun i hi => by rw [he i hi]; have := hf i hi; omega)), lst_congr he]
      · rw [if_neg c2] at hlen
        have P : putL n f = 2 :: runsL n f 0 := by unfold putL; rw [if_neg c1, if_neg c2]
        have hz : b 0 = 2 := by rw [hh]; unfold formF; rw [if_neg c1, if_neg c2]
        unfold readL
        rw [if_neg hB, if_neg (by omega), if_neg (by omega), if_pos hz]
        have := dec_runs (n := n) (B := B) (f := f) (b := b) hf 0 1 (by omega) (fun j hj hjB => by
          rw [hb (1 + j) (by rw [P, List.length_cons]; omega) hjB, P, Nat.add_comm]
          rfl) (by omega)
        rw [show lst 0 f = [] from rfl] at this
        rw [this, P, List.length_cons, Nat.add_comm _ 1]
        by_cases hs : B < 1 + (runsL n f 0).length
        · rw [if_pos ⟨by omega, hs⟩, if_pos hs]
        · rw [if_neg (by omega), if_neg hs]
  unfold getL
  rw [key]
  by_cases hs : B < (putL n f).length
  · rw [if_pos hs, if_pos (by simp)]
  · have h0 := hb 0 (by rw [hlen]; split; omega; split <;> omega) (by have := putL_len n f; rw [this] at hs; split at hs; omega; split at hs <;> omega)
    have hh : b 0 = formF n f := by rw [h0]; exact putL_head n f
    rw [if_neg hs, if_neg (by simp), if_neg]
    rw [hh]
    exact fun e => e (formF_congr (fun i hi => at0_lst hi))

end Go.Proofs.YtakmiafloolpmaaDoor
