/- How many locals are open, behind a cost that is laid; that they rise. No condition. -/
import Derived.Test.YtafghafdapiadaaTWalks2
namespace Go.Proofs.Ytafghafdapiadaa
open Go.RowKit

theorem openL_succ (n : Nat) (f : Nat → Int) : (openL (n + 1) f).length = (openL n f).length + (if f n = 255 then 0 else 1) := by
  by_cases h : f n = 255
  · rw [openL_no n f h, if_pos h, Nat.add_zero]
  · rw [openL_yes n f h, if_neg h]; simp
theorem openL_congr {n : Nat} {f g : Nat → Int} (h : ∀ i, i < n → f i = g i) : openL n f = openL n g := by
  unfold openL
  exact List.filter_congr fun i hi => by rw [h i (List.mem_range.1 hi)]
theorem openL_upd {n l : Nat} (f : Nat → Int) (v : Int) (hl : l < n) : (openL n (upd f l v)).length + (if f l = 255 then 0 else 1) = (openL n f).length + (if v = 255 then 0 else 1) := by
  induction n with
  | zero => omega
  | succ n ih =>
    rw [openL_succ, openL_succ]
    by_cases e : l = n
    · subst e
      have h1 : openL l (upd f l v) = openL l f := openL_congr fun i hi => by unfold upd; rw [if_neg (by omega)]
      have h2 : upd f l v l = v := by simp [upd]
      rw [h1, h2]
      omega
    · have h2 : upd f l v n = f n := by unfold upd; rw [if_neg (by omega)]
      have := ih (by omega)
      rw [h2]
      omega
theorem openL_mem {n : Nat} {f : Nat → Int} {x : Nat} : x ∈ openL n f ↔ x < n ∧ f x ≠ 255 := by simp [openL]
theorem openL_sorted (n : Nat) (f : Nat → Int) : (openL n f).Pairwise (· < ·) := List.pairwise_lt_range.filter _
theorem openF_nat {n : Nat} {f : Nat → Int} {j : Nat} (h : j < (openL n f).length) : openF n f j = ((openL n f)[j] : Nat) := by simp [openF, h]
theorem openF_lt {n : Nat} {f : Nat → Int} {i j : Nat} (hij : i < j) (h : j < (openL n f).length) : openF n f i < openF n f j := by
  rw [openF_nat h, openF_nat (show i < (openL n f).length by omega)]
  have := (List.pairwise_iff_getElem.1 (openL_sorted n f)) i j (by omega) h hij
  omega
theorem openF_mem {n : Nat} {f : Nat → Int} {j : Nat} (h : j < (openL n f).length) : ∃ x : Nat, openF n f j = x ∧ x < n ∧ f x ≠ 255 :=
  ⟨_, openF_nat h, openL_mem.1 (List.getElem_mem h)⟩

/-- a cost that is laid leaves a tile that may be -/
theorem mayTB_upd {W H : Int} {n : Nat} {f : Nat → Int} (h : mayTB W H n f = true) (l : Nat) {x : Int} (hx : x ≠ 0) : mayTB W H n (upd f l x) = true := by
  obtain ⟨a, b, c, d⟩ := (mayTB_iff _ _ _ _).1 h
  exact (mayTB_iff _ _ _ _).2 ⟨a, b, c, fun i hi => by unfold upd; split; exact hx; exact d i hi⟩

end Go.Proofs.Ytafghafdapiadaa
