/- What the calls of package tile answer, of any tile that lies in memory: fits, May, isLocal, At, Near; nothing that was there is written. -/
import Derived.Test.YtjnoklfmdckidaaTBase
namespace Go.Proofs.Ytjnoklfmdckidaa
open Go.RowKit

def fitsB (s : Int) : Bool := decide (1 ≤ s ∧ s ≤ 16)
theorem fitsB_iff (s : Int) : fitsB s = true ↔ 1 ≤ s ∧ s ≤ 16 := by simp [fitsB]
theorem fitsB_false (s : Int) : fitsB s = false ↔ ¬ (1 ≤ s ∧ s ≤ 16) := by simp [fitsB]
/-- a tile may be -/
def mayTB (W H : Int) (n : Nat) (f : Nat → Int) : Bool := fitsB W && fitsB H && decide ((n : Int) = W * H) && fullB n f
theorem mayTB_iff (W H : Int) (n : Nat) (f : Nat → Int) : mayTB W H n f = true ↔ (1 ≤ W ∧ W ≤ 16) ∧ (1 ≤ H ∧ H ≤ 16) ∧ (n : Int) = W * H ∧ ∀ i, i < n → f i ≠ 0 := by
  simp [mayTB, fitsB_iff, fullB_iff, and_assoc]
theorem mayTB_n {W H : Int} {n : Nat} {f : Nat → Int} (h : mayTB W H n f = true) : 1 ≤ n ∧ n ≤ 256 ∧ (n : Int) = W * H ∧ mayB W H = true := by
  obtain ⟨⟨a, b⟩, ⟨c, d⟩, e, _⟩ := (mayTB_iff W H n f).1 h
  have m := mul_bd (w := W) (h := H) (W := 16) (H := 16) (by omega) b (by omega) d
  have g := Int.mul_le_mul a c (by omega) (by omega : (0 : Int) ≤ W)
  exact ⟨by omega, by omega, e, (mayB_iff _ _).2 ⟨by omega, by omega, by omega, by omega⟩⟩

def isLocB (W H : Int) (n : Nat) (f : Nat → Int) (l : Int) : Bool := mayTB W H n f && decide (0 ≤ l ∧ l < n)
theorem isLocB_iff (W H : Int) (n : Nat) (f : Nat → Int) (l : Int) : isLocB W H n f l = true ↔ mayTB W H n f = true ∧ 0 ≤ l ∧ l < n := by simp [isLocB]

/-- what At answers -/
def atF (W H : Int) (n : Nat) (f : Nat → Int) (l : Int) : Int := if isLocB W H n f l = true then f l.toNat else 0
theorem loc_cell {W H : Int} {n : Nat} {f : Nat → Int} {l : Int} (h : isLocB W H n f l = true) : isCellB W H l = true := by
  obtain ⟨m, a, b⟩ := (isLocB_iff _ _ _ _ _).1 h
  obtain ⟨_, _, e, mm⟩ := mayTB_n m
  exact (isCellB_iff _ _ _).2 ⟨mm, a, by omega⟩
/-- what Near answers -/
def nearF (W H : Int) (n : Nat) (f : Nat → Int) (l s : Int) : Int := if isLocB W H n f l = true then stepF W H l s else -1

end Go.Proofs.Ytjnoklfmdckidaa
