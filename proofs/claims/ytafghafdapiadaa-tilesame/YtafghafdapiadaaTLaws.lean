/- The statements' own helpers of layer 2: the example of four costs is as told; 'near' gives a tile of numbers, or a copy. -/
import Derived.Test.YtafghafdapiadaaTMade2
namespace Go.Proofs.Ytafghafdapiadaa
open Go.RowKit

def toldF (i : Nat) : Int := if i = 0 then 1 else if i = 1 then 255 else if i = 2 then 3 else 4
theorem told_sl (w : World) : Sl (w.alloc (.cells #[.int .u8 1, .int .u8 255, .int .u8 3, .int .u8 4] 5)) (some ⟨w.heap.size, 0, none⟩) 4 toldF := by
  refine ⟨fun i hi => ?_, .inr ⟨w.heap.size, 0, rfl, by simp only [World.size_alloc]; omega, fun i hi => ?_⟩⟩
  · rcases (by omega : i = 0 ∨ i = 1 ∨ i = 2 ∨ i = 3) with rfl | rfl | rfl | rfl <;> decide
  · rcases (by omega : i = 0 ∨ i = 1 ∨ i = 2 ∨ i = 3) with rfl | rfl | rfl | rfl <;> simp [go_sem, toldF]
theorem told_open {w : World} {base : Nat} {v : Value} (h : w.ownsRow base 3 1 v (openL 4 toldF).length (openV 4 toldF)) :
    ∃ g c, v = .slice (some ⟨g, 0, none⟩) 3 c ∧ g < w.heap.size ∧ w.cell? ⟨g, 1, none⟩ = some (.int .i64 2) := by
  rw [openV_cel] at h
  have e : openL 4 toldF = [0, 2, 3] := by decide
  have ef : openF 4 toldF 1 = 2 := by decide
  obtain ⟨a, c, rfl, _, _, hh⟩ := own_form h
  rw [e] at hh
  rcases hh with hh | ⟨g, rfl, _, hg, hc⟩
  · simp at hh
  · have := hc 1 (by simp)
    rw [ef] at this
    exact ⟨g, c, by rw [e]; rfl, hg, this⟩

set_option maxHeartbeats 1000000 in
theorem told_any (w : World) :
    Calls Try.prog 8 #[] w fun e w' => e = .returned (.bool true) ∧ Gr w w' := by
  have hm : mayTB 2 2 4 toldF = true := by decide
  have hn : nearF 2 2 4 toldF 3 0 = 1 := by decide
  have ha : atF 2 2 4 toldF 2 = 3 := by decide
  have h0 := told_sl w
  have H0 := hide h0
  clear h0
  go_enter Try.func8, Try.ntmps8
  go_wp2_with (first | (go_at_call 18; refine (open_yes _ _ _ _ _ toldF _ (H0.out.gr (by repeat (first | exact Gr.refl _ | assumption | exact Dr.gr (by assumption) | refine Gr.alloc ?_ _ | refine Gr.drewN ?_ _ | refine Gr.drew ?_ | refine Gr.trans ?_ (by assumption) | refine Gr.trans ?_ (Dr.gr (by assumption))))) hm).mono ?_; rintro e w1 ⟨⟨v, rfl, hv⟩, hg⟩; obtain ⟨g, c, rfl, hgl, hgc⟩ := told_open hv; obtain ⟨ho, hf, hs⟩ := hg.old; clear hv; have hz : w.heap.size + 1 < w1.heap.size := (by simp only [World.size_alloc] at hs; omega)) | (go_at_call 13; refine (tmay_any _ _ _ _ _ toldF _ (H0.out.gr (by repeat (first | exact Gr.refl _ | assumption | exact Dr.gr (by assumption) | refine Gr.alloc ?_ _ | refine Gr.drewN ?_ _ | refine Gr.drew ?_ | refine Gr.trans ?_ (by assumption) | refine Gr.trans ?_ (Dr.gr (by assumption)))))).mono ?_; rintro e w2 ⟨rfl, hg2⟩; rw [hm]; obtain ⟨ho2, hf2, hs2⟩ := hg2.old; have hz2 : w.heap.size + 1 < w2.heap.size := (by omega); have hgl2 : g < w2.heap.size := (by omega)) | (go_at_call 15; refine (tnear_any _ _ _ _ _ toldF _ _ _ (H0.out.gr (by repeat (first | exact Gr.refl _ | assumption | exact Dr.gr (by assumption) | refine Gr.alloc ?_ _ | refine Gr.drewN ?_ _ | refine Gr.drew ?_ | refine Gr.trans ?_ (by assumption) | refine Gr.trans ?_ (Dr.gr (by assumption)))))).mono ?_; rintro e w3 ⟨rfl, hg3⟩; rw [hn]; obtain ⟨ho3, hf3, hs3⟩ := hg3.old) | (go_at_call 14; refine (at_any _ _ _ _ _ toldF _ _ (H0.out.gr (by repeat (first | exact Gr.refl _ | assumption | exact Dr.gr (by assumption) | refine Gr.alloc ?_ _ | refine Gr.drewN ?_ _ | refine Gr.drew ?_ | refine Gr.trans ?_ (by assumption) | refine Gr.trans ?_ (Dr.gr (by assumption)))))).mono ?_; rintro e w4 ⟨rfl, hg4⟩; rw [ha]))
  go_ret
  exact ⟨rfl, (by repeat (first | exact Gr.refl _ | assumption | exact Dr.gr (by assumption) | refine Gr.alloc ?_ _ | refine Gr.drewN ?_ _ | refine Gr.drew ?_ | refine Gr.trans ?_ (by assumption) | refine Gr.trans ?_ (Dr.gr (by assumption))))⟩

end Go.Proofs.Ytafghafdapiadaa
