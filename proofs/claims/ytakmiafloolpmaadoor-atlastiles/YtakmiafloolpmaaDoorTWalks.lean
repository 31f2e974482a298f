/- What the calls of package tile answer, of any tile that lies in memory: fits, May, isLocal, At, Near; nothing that was there is written. -/
import Derived.Test.YtakmiafloolpmaaDoorTBase
namespace Go.Proofs.YtakmiafloolpmaaDoor
open Go.RowKit

def fitsB (s : Int) : Bool := decide (1 ≤ s ∧ s ≤ 16)
theorem fitsB_iff (s : Int) : fitsB s = true ↔ 1 ≤ s ∧ s ≤ 16 := by simp [fitsB]
theorem fitsB_false (s : Int) : fitsB s = false ↔ ¬ (1 ≤ s ∧ s ≤ 16) := by simp [fitsB]
/-- a tile may be -/
def mayTB (W H : Int) (n : Nat) (f : Nat → Int) : Bool := fitsB W && fitsB H && decide ((n : Int) = W * H) && fullB n f
theorem mayTB_iff (W H : Int) (n : Nat) (f : Nat → Int) : mayTB W H n f = true ↔ (1 ≤ W ∧ W ≤ 16) ∧ (1 ≤ H ∧ H ≤ 16) ∧ (n : Int) = W * H ∧ ∀ i, i < n → f i ≠ 0 := by
  simp [mayTB, fitsB_iff, fullB_iff, and_assoc]
theorem mayTB_n {W H : Int} {n : Nat} {f : Nat → Int} (h : mayTB W H n f = true) : 1 ≤ n ∧ n ≤ 256 ∧ (n : Int) = W * H ∧ mayB W H = true := by
  obtain ⟨⟨a, b⟩, ⟨c, d⟩, e, _⟩ := (mayTB_iff W H n f).1 h
  have m := mul_bd (w := W) (h := H) (W := 16) (H := 16) (by omega) b (by omega) d
  have g := Int.mul_le_mul a c (by omega) (by omega : (0 : Int) ≤ W)
  exact ⟨by omega, by omega, e, (mayB_iff _ _).2 ⟨by omega, by omega, by omega, by omega⟩⟩

set_option maxHeartbeats 400000 in
theorem fits_any (s : Int) (w : World) :
    Calls Tryd.prog 71 #[.int .i64 s] w fun e w' => e = .returned (.bool (fitsB s)) ∧ w' = w := by
  by_cases h1 : 1 ≤ s <;> by_cases h2 : s ≤ 16
  all_goals
    go_enter Tryd.func71, Tryd.ntmps71
    go_wp2
    go_ret
    exact ⟨ret_bool (by simp [fitsB, h1, h2]), rfl⟩

set_option maxHeartbeats 1000000 in
theorem tmay_any (W H : Int) (a : Option Addr) (n cap : Nat) (f : Nat → Int) (w : World) (h : Sl w a n f) :
    Calls Tryd.prog 58 #[.agg #[.int .i64 W, .int .i64 H, .slice a n cap]] w fun e w' => e = .returned (.bool (mayTB W H n f)) ∧ Gr w w' := by
  cases hW : fitsB W
  · go_enter Tryd.func58, Tryd.ntmps58
    go_wp2_with (go_at_call 71; refine (fits_any _ _).mono ?_; rintro e w' ⟨rfl, rfl⟩)
    go_ret
    exact ⟨ret_bool (by simp [mayTB, hW]), (by repeat (first | exact Gr.refl _ | assumption | exact Dr.gr (by assumption) | refine Gr.alloc ?_ _ | refine Gr.drewN ?_ _ | refine Gr.drew ?_ | refine Gr.trans ?_ (by assumption) | refine Gr.trans ?_ (Dr.gr (by assumption))))⟩
  cases hH : fitsB H
  · go_enter Tryd.func58, Tryd.ntmps58
    go_wp2_with (go_at_call 71; refine (fits_any _ _).mono ?_; rintro e w' ⟨rfl, rfl⟩)
    go_ret
    exact ⟨ret_bool (by simp [mayTB, hW, hH]), (by repeat (first | exact Gr.refl _ | assumption | exact Dr.gr (by assumption) | refine Gr.alloc ?_ _ | refine Gr.drewN ?_ _ | refine Gr.drew ?_ | refine Gr.trans ?_ (by assumption) | refine Gr.trans ?_ (Dr.gr (by assumption))))⟩
  have w1 := (fitsB_iff W).1 hW
  have w2 := (fitsB_iff H).1 hH
  have m := mul_bd (w := W) (h := H) (W := 16) (H := 16) (by omega) (by omega) (by omega) (by omega)
  by_cases hn : (n : Int) = W * H
  · have HN := hide hn
    have hn' : ((n : Int) == W * H) = true := by simp [hn]
    clear hn
    go_enter Tryd.func58, Tryd.ntmps58
    go_wp2_with (first | (go_at_call 71; refine (fits_any _ _).mono ?_; rintro e w' ⟨rfl, rfl⟩) | (go_at_call 37; refine (indexByte_any _ _ _ f _ (h.gr ((Gr.refl _).alloc _))).mono ?_; rintro e w' ⟨⟨r, rfl, hr⟩, rfl⟩))
    go_ret
    exact ⟨ret_bool (by simp only [mayTB, hW, hH, HN.out, decide_true, Bool.and_true, Bool.true_and]), (by repeat (first | exact Gr.refl _ | assumption | exact Dr.gr (by assumption) | refine Gr.alloc ?_ _ | refine Gr.drewN ?_ _ | refine Gr.drew ?_ | refine Gr.trans ?_ (by assumption) | refine Gr.trans ?_ (Dr.gr (by assumption))))⟩
  · have hn' : ((n : Int) == W * H) = false := by simp [hn]
    go_enter Tryd.func58, Tryd.ntmps58
    go_wp2_with (go_at_call 71; refine (fits_any _ _).mono ?_; rintro e w' ⟨rfl, rfl⟩)
    go_ret
    exact ⟨ret_bool (by simp [mayTB, hW, hH, hn]), (by repeat (first | exact Gr.refl _ | assumption | exact Dr.gr (by assumption) | refine Gr.alloc ?_ _ | refine Gr.drewN ?_ _ | refine Gr.drew ?_ | refine Gr.trans ?_ (by assumption) | refine Gr.trans ?_ (Dr.gr (by assumption))))⟩

def isLocB (W H : Int) (n : Nat) (f : Nat → Int) (l : Int) : Bool := mayTB W H n f && decide (0 ≤ l ∧ l < n)
theorem isLocB_iff (W H : Int) (n : Nat) (f : Nat → Int) (l : Int) : isLocB W H n f l = true ↔ mayTB W H n f = true ∧ 0 ≤ l ∧ l < n := by simp [isLocB]

/-- what At answers -/
def atF (W H : Int) (n : Nat) (f : Nat → Int) (l : Int) : Int := if isLocB W H n f l = true then f l.toNat else 0
theorem loc_cell {W H : Int} {n : Nat} {f : Nat → Int} {l : Int} (h : isLocB W H n f l = true) : isCellB W H l = true := by
  obtain ⟨m, a, b⟩ := (isLocB_iff _ _ _ _ _).1 h
  obtain ⟨_, _, e, mm⟩ := mayTB_n m
  exact (isCellB_iff _ _ _).2 ⟨mm, a, by omega⟩
/-- what Near answers -/
def nearF (W H : Int) (n : Nat) (f : Nat → Int) (l s : Int) : Int := if isLocB W H n f l = true then stepF W H l s else -1

end Go.Proofs.YtakmiafloolpmaaDoor
