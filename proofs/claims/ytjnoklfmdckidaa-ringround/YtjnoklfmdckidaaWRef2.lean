/- What the document's own Step, Side, Sector, Count, Size, Local, Global answer: the same plain functions of WMath; nothing is written. -/
import Derived.Test.YtjnoklfmdckidaaWRef
namespace Go.Proofs.Ytjnoklfmdckidaa
open Go.RowKit

theorem sideF_nocell {a b c d : Int} (hc : isCellB a b c = false) : sideF a b c d = 5 := by
  cases hd : isCellB a b d
  · unfold sideF; rw [if_neg (by simp [hd])]
  · obtain ⟨_, h0, _⟩ := (isCellB_iff a b d).1 hd
    refine sideF_none hd (fun j _ => ?_)
    have : stepF a b c j = -1 := by unfold stepF; rw [if_neg (by simp [hc])]
    omega

def countF (a b : Int) : Int := if mayB a b = true then acrossF a * acrossF b else 0
theorem count_iff (a b s : Int) : isSectorB a b s = true ↔ 0 ≤ s ∧ s ≤ countF a b - 1 := by
  unfold countF
  cases hm : mayB a b
  · simp [isSectorB, hm]; omega
  · simp [isSectorB, hm]; omega
theorem count_bd (a b : Int) : 0 ≤ countF a b ∧ countF a b ≤ 4096 := by
  unfold countF
  split
  · rename_i h; have := across_mul h; omega
  · omega

end Go.Proofs.Ytjnoklfmdckidaa
