/- What the calls of package tile answer, of any tile that lies in memory: fits, May, isLocal, At, Near; nothing that was there is written. -/
import Derived.Test.YtigoehoaplndiaaTBase
namespace Go.Proofs.Ytigoehoaplndiaa
open Go.RowKit

def fitsB (s : Int) : Bool := decide (1 ≤ s ∧ s ≤ 16)
theorem fitsB_iff (s : Int) : fitsB s = true ↔ 1 ≤ s ∧ s ≤ 16 := by simp [fitsB]
theorem fitsB_false (s : Int) : fitsB s = false ↔ ¬ (1 ≤ s ∧ s ≤ 16) := by simp [fitsB]
/-- a tile may be -/
def mayTB (W H : Int) (n : Nat) (f : Nat → Int) : Bool := fitsB W && fitsB H && decide ((n : Int) = W * H) && fullB n f
theorem mayTB_iff (W H : Int) (n : Nat) (f : Nat → Int) : mayTB W H n f = true ↔ (1 ≤ W ∧ W ≤ 16) ∧ (1 ≤ H ∧ H ≤ 16) ∧ (n : Int) = W * H ∧ ∀ i, i < n → f i ≠ 0 := by
  simp [mayTB, fitsB_iff, fullB_iff, and_assoc]
theorem mayTB_n {W H : Int} {n : Nat} {f : Nat → Int} (h : mayTB W H n f = true) : 1 ≤ n ∧ n ≤ 256 ∧ (n : Int) = W * H ∧ mayB W H = true := by
  obtain ⟨⟨a, b⟩, ⟨c, d⟩, e, _⟩ := (mayTB_iff W H n f).1 h
  have m := mul_bd (w := W) (h := H) (W := 16) (H := 16) (by omega) b (by omega) d
  have g := Int.mul_le_mul a c (by omega) (by omega : (0 : Int) ≤ W)
  exact ⟨by omega, by omega, e, (mayB_iff _ _).2 ⟨by omega, by omega, by omega, by omega⟩⟩

set_option maxHeartbeats 400000 in
theorem fits_any (s : Int) (w : World) :
    Calls Try.prog 49 #[.int .i64 s] w fun e w' => e = .returned (.bool (fitsB s)) ∧ w' = w := by
  by_cases h1 : 1 ≤ s <;> by_cases h2 : s ≤ 16
  all_goals
    go_enter Try.func49, Try.ntmps49
    go_wp2
    go_ret
    exact ⟨ret_bool (by simp [fitsB, h1, h2]), rfl⟩

set_option maxHeartbeats 1000000 in
theorem tmay_any (W H : Int) (a : Option Addr) (n cap : Nat) (f : Nat → Int) (w : World) (h : Sl w a n f) :
    Calls Try.prog 32 #[.agg #[.int .i64 W, .int .i64 H, .slice a n cap]] w fun e w' => e = .returned (.bool (mayTB W H n f)) ∧ Gr w w' := by
  cases hW : fitsB W
  · go_enter Try.func32, Try.ntmps32
    go_wp2_with (go_at_call 49; refine (fits_any _ _).mono ?_; rintro e w' ⟨rfl, rfl⟩)
    go_ret
    exact ⟨ret_bool (by simp [mayTB, hW]), (by repeat (first | exact Gr.refl _ | assumption | exact Dr.gr (by assumption) | refine Gr.alloc ?_ _ | refine Gr.drewN ?_ _ | refine Gr.drew ?_ | refine Gr.trans ?_ (by assumption) | refine Gr.trans ?_ (Dr.gr (by assumption))))⟩
  cases hH : fitsB H
  · go_enter Try.func32, Try.ntmps32
    go_wp2_with (go_at_call 49; refine (fits_any _ _).mono ?_; rintro e w' ⟨rfl, rfl⟩)
    go_ret
    exact ⟨ret_bool (by simp [mayTB, hW, hH]), (by repeat (first | exact Gr.refl _ | assumption | exact Dr.gr (by assumption) | refine Gr.alloc ?_ _ | refine Gr.drewN ?_ _ | refine Gr.drew ?_ | refine Gr.trans ?_ (by assumption) | refine Gr.trans ?_ (Dr.gr (by assumption))))⟩
  have w1 := (fitsB_iff W).1 hW
  have w2 := (fitsB_iff H).1 hH
  have m := mul_bd (w := W) (h := H) (W := 16) (H := 16) (by omega) (by omega) (by omega) (by omega)
  by_cases hn : (n : Int) = W * H
  · have HN := hide hn
    have hn' : ((n : Int) == W * H) = true := by simp [hn]
    clear hn
    go_enter Try.func32, Try.ntmps32
    go_wp2_with (first | (go_at_call 49; refine (fits_any _ _).mono ?_; rintro e w' ⟨rfl, rfl⟩) | (go_at_call 50; refine (indexByte_any _ _ _ f _ (h.gr ((Gr.refl _).alloc _))).mono ?_; rintro e w' ⟨⟨r, rfl, hr⟩, rfl⟩))
    go_ret
    exact ⟨ret_bool (by simp only [mayTB, hW, hH, HN.out, decide_true, Bool.and_true, Bool.true_and]), (by repeat (first | exact Gr.refl _ | assumption | exact Dr.gr (by assumption) | refine Gr.alloc ?_ _ | refine Gr.drewN ?_ _ | refine Gr.drew ?_ | refine Gr.trans ?_ (by assumption) | refine Gr.trans ?_ (Dr.gr (by assumption))))⟩
  · have hn' : ((n : Int) == W * H) = false := by simp [hn]
    go_enter Try.func32, Try.ntmps32
    go_wp2_with (go_at_call 49; refine (fits_any _ _).mono ?_; rintro e w' ⟨rfl, rfl⟩)
    go_ret
    exact ⟨ret_bool (by simp [mayTB, hW, hH, hn]), (by repeat (first | exact Gr.refl _ | assumption | exact Dr.gr (by assumption) | refine Gr.alloc ?_ _ | refine Gr.drewN ?_ _ | refine Gr.drew ?_ | refine Gr.trans ?_ (by assumption) | refine Gr.trans ?_ (Dr.gr (by assumption))))⟩

def isLocB (W H : Int) (n : Nat) (f : Nat → Int) (l : Int) : Bool := mayTB W H n f && decide (0 ≤ l ∧ l < n)
theorem isLocB_iff (W H : Int) (n : Nat) (f : Nat → Int) (l : Int) : isLocB W H n f l = true ↔ mayTB W H n f = true ∧ 0 ≤ l ∧ l < n := by simp [isLocB]

set_option maxHeartbeats 1000000 in
theorem isLocal_any (W H : Int) (a : Option Addr) (n cap : Nat) (f : Nat → Int) (l : Int) (w : World) (h : Sl w a n f) :
    Calls Try.prog 72 #[.agg #[.int .i64 W, .int .i64 H, .slice a n cap], .int .i64 l] w fun e w' => e = .returned (.bool (isLocB W H n f l)) ∧ Gr w w' := by
  cases hm : mayTB W H n f
  · go_enter Try.func72, Try.ntmps72
    go_wp2_with (go_at_call 32; refine (tmay_any _ _ _ _ _ f _ (h.gr ((Gr.refl _).alloc _))).mono ?_; rintro e w' ⟨rfl, hg⟩; rw [hm])
    go_ret
    exact ⟨ret_bool (by simp [isLocB, hm]), (by repeat (first | exact Gr.refl _ | assumption | exact Dr.gr (by assumption) | refine Gr.alloc ?_ _ | refine Gr.drewN ?_ _ | refine Gr.drew ?_ | refine Gr.trans ?_ (by assumption) | refine Gr.trans ?_ (Dr.gr (by assumption))))⟩
  · by_cases h1 : 0 ≤ l
    · by_cases h2 : l < n
      all_goals
        go_enter Try.func72, Try.ntmps72
        go_wp2_with (go_at_call 32; refine (tmay_any _ _ _ _ _ f _ (h.gr ((Gr.refl _).alloc _))).mono ?_; rintro e w' ⟨rfl, hg⟩; rw [hm]; obtain ⟨ho, hf, hs⟩ := hg.old)
        go_ret
        exact ⟨ret_bool (by simp [isLocB, hm, h1, h2]), (by repeat (first | exact Gr.refl _ | assumption | exact Dr.gr (by assumption) | refine Gr.alloc ?_ _ | refine Gr.drewN ?_ _ | refine Gr.drew ?_ | refine Gr.trans ?_ (by assumption) | refine Gr.trans ?_ (Dr.gr (by assumption))))⟩
    · go_enter Try.func72, Try.ntmps72
      go_wp2_with (go_at_call 32; refine (tmay_any _ _ _ _ _ f _ (h.gr ((Gr.refl _).alloc _))).mono ?_; rintro e w' ⟨rfl, hg⟩; rw [hm]; obtain ⟨ho, hf, hs⟩ := hg.old)
      go_ret
      exact ⟨ret_bool (by simp [isLocB, hm]; omega), (by repeat (first | exact Gr.refl _ | assumption | exact Dr.gr (by assumption) | refine Gr.alloc ?_ _ | refine Gr.drewN ?_ _ | refine Gr.drew ?_ | refine Gr.trans ?_ (by assumption) | refine Gr.trans ?_ (Dr.gr (by assumption))))⟩

set_option maxHeartbeats 1000000 in
theorem at_yes (W H : Int) (a : Option Addr) (n cap : Nat) (f : Nat → Int) (k : Nat) (w : World) (h : Sl w a n f) (hl : isLocB W H n f k = true) :
    Calls Try.prog 51 #[.agg #[.int .i64 W, .int .i64 H, .slice a n cap], .int .i64 k] w fun e w' => e = .returned (.int .i64 (f k)) ∧ Gr w w' := by
  obtain ⟨_, _, hk⟩ := (isLocB_iff _ _ _ _ _).1 hl
  have hk : k < n := by omega
  have hb := h.byte k hk
  obtain ⟨b, o, rfl, hB, hc⟩ := h.at (by omega)
  have hck := hc k hk
  clear hc
  go_enter Try.func51, Try.ntmps51
  go_wp2_with (go_at_call 72; refine (isLocal_any _ _ _ _ _ f _ _ (h.gr ((Gr.refl _).alloc _))).mono ?_; rintro e w' ⟨rfl, hg⟩; rw [hl]; obtain ⟨ho, hf, hs⟩ := hg.old)
  go_ret
  exact ⟨rfl, (by repeat (first | exact Gr.refl _ | assumption | exact Dr.gr (by assumption) | refine Gr.alloc ?_ _ | refine Gr.drewN ?_ _ | refine Gr.drew ?_ | refine Gr.trans ?_ (by assumption) | refine Gr.trans ?_ (Dr.gr (by assumption))))⟩

set_option maxHeartbeats 1000000 in
theorem at_no (W H : Int) (a : Option Addr) (n cap : Nat) (f : Nat → Int) (l : Int) (w : World) (h : Sl w a n f) (hl : isLocB W H n f l = false) :
    Calls Try.prog 51 #[.agg #[.int .i64 W, .int .i64 H, .slice a n cap], .int .i64 l] w fun e w' => e = .returned (.int .i64 0) ∧ Gr w w' := by
  go_enter Try.func51, Try.ntmps51
  go_wp2_with (go_at_call 72; refine (isLocal_any _ _ _ _ _ f _ _ (h.gr ((Gr.refl _).alloc _))).mono ?_; rintro e w' ⟨rfl, hg⟩; rw [hl])
  go_ret
  exact ⟨rfl, (by repeat (first | exact Gr.refl _ | assumption | exact Dr.gr (by assumption) | refine Gr.alloc ?_ _ | refine Gr.drewN ?_ _ | refine Gr.drew ?_ | refine Gr.trans ?_ (by assumption) | refine Gr.trans ?_ (Dr.gr (by assumption))))⟩
/-- what At answers -/
def atF (W H : Int) (n : Nat) (f : Nat → Int) (l : Int) : Int := if isLocB W H n f l = true then f l.toNat else 0
theorem at_any (W H : Int) (a : Option Addr) (n cap : Nat) (f : Nat → Int) (l : Int) (w : World) (h : Sl w a n f) :
    Calls Try.prog 51 #[.agg #[.int .i64 W, .int .i64 H, .slice a n cap], .int .i64 l] w fun e w' => e = .returned (.int .i64 (atF W H n f l)) ∧ Gr w w' := by
  cases hl : isLocB W H n f l
  · have e : atF W H n f l = 0 := by simp [atF, hl]
    rw [e]; exact at_no W H a n cap f l w h hl
  · obtain ⟨_, h0, _⟩ := (isLocB_iff _ _ _ _ _).1 hl
    have e : atF W H n f l = f l.toNat := by simp [atF, hl]
    obtain ⟨k, rfl⟩ := Int.eq_ofNat_of_zero_le h0
    rw [e]; exact at_yes W H a n cap f k w h hl

theorem loc_cell {W H : Int} {n : Nat} {f : Nat → Int} {l : Int} (h : isLocB W H n f l = true) : isCellB W H l = true := by
  obtain ⟨m, a, b⟩ := (isLocB_iff _ _ _ _ _).1 h
  obtain ⟨_, _, e, mm⟩ := mayTB_n m
  exact (isCellB_iff _ _ _).2 ⟨mm, a, by omega⟩
/-- what Near answers -/
def nearF (W H : Int) (n : Nat) (f : Nat → Int) (l s : Int) : Int := if isLocB W H n f l = true then stepF W H l s else -1

set_option maxHeartbeats 1000000 in
theorem tnear_no (W H : Int) (a : Option Addr) (n cap : Nat) (f : Nat → Int) (l s : Int) (w : World) (h : Sl w a n f) (hl : isLocB W H n f l = false) :
    Calls Try.prog 52 #[.agg #[.int .i64 W, .int .i64 H, .slice a n cap], .int .i64 l, .int .i64 s] w fun e w' => e = .returned (.int .i64 (-1)) ∧ Gr w w' := by
  go_enter Try.func52, Try.ntmps52
  go_wp2_with (go_at_call 72; refine (isLocal_any _ _ _ _ _ f _ _ (h.gr ((Gr.refl _).alloc _))).mono ?_; rintro e w' ⟨rfl, hg⟩; rw [hl])
  go_ret
  exact ⟨rfl, (by repeat (first | exact Gr.refl _ | assumption | exact Dr.gr (by assumption) | refine Gr.alloc ?_ _ | refine Gr.drewN ?_ _ | refine Gr.drew ?_ | refine Gr.trans ?_ (by assumption) | refine Gr.trans ?_ (Dr.gr (by assumption))))⟩

set_option maxHeartbeats 2000000 in
theorem tnear_yes (W H : Int) (a : Option Addr) (n cap : Nat) (f : Nat → Int) (l s : Int) (w : World) (h : Sl w a n f) (hl : isLocB W H n f l = true) :
    Calls Try.prog 52 #[.agg #[.int .i64 W, .int .i64 H, .slice a n cap], .int .i64 l, .int .i64 s] w fun e w' => e = .returned (.int .i64 (stepF W H l s)) ∧ Gr w w' := by
  have hc := loc_cell hl
  obtain ⟨p1, p2, p3, p4, _⟩ := place_bd hc
  obtain ⟨m, _, _⟩ := (isCellB_iff _ _ _).1 hc
  obtain ⟨m1, m2, m3, m4⟩ := (mayB_iff _ _).1 m
  have HS : Hid (stepF W H l s = if s = 0 then cellF W H (l % W) (l / W - 1) else if s = 1 then cellF W H (l % W + 1) (l / W) else if s = 2 then cellF W H (l % W) (l / W + 1)
     else if s = 3 then cellF W H (l % W - 1) (l / W) else if s = 4 then cellF W H (l % W) (l / W) else -1) := hide (by unfold stepF; rw [if_pos hc])
  rcases (by omega : s = 0 ∨ s = 1 ∨ s = 2 ∨ s = 3 ∨ s = 4 ∨ (s < 0 ∨ 4 < s)) with rfl | rfl | rfl | rfl | rfl | hs
  all_goals
    go_enter Try.func52, Try.ntmps52
    go_wp2_with (first | (go_at_call 72; refine (isLocal_any _ _ _ _ _ f _ _ (h.gr ((Gr.refl _).alloc _))).mono ?_; rintro e w' ⟨rfl, hg⟩; rw [hl]; obtain ⟨ho, hf, hs⟩ := hg.old) | (go_at_call 73; refine (place_yes _ _ _ _ hc).mono ?_; rintro e w' ⟨rfl, q, rfl⟩) | (go_at_call 74; refine (cell_any _ _ _ _ _).mono ?_; rintro e w' ⟨rfl, q, rfl⟩))
    go_ret
    exact ⟨ret_int (by rw [HS.out]; repeat (first | rfl | rw [if_pos rfl] | rw [if_neg (by omega)] | (congr 1; omega))), (by repeat (first | exact Gr.refl _ | assumption | exact Dr.gr (by assumption) | refine Gr.alloc ?_ _ | refine Gr.drewN ?_ _ | refine Gr.drew ?_ | refine Gr.trans ?_ (by assumption) | refine Gr.trans ?_ (Dr.gr (by assumption))))⟩

theorem tnear_any (W H : Int) (a : Option Addr) (n cap : Nat) (f : Nat → Int) (l s : Int) (w : World) (h : Sl w a n f) :
    Calls Try.prog 52 #[.agg #[.int .i64 W, .int .i64 H, .slice a n cap], .int .i64 l, .int .i64 s] w fun e w' => e = .returned (.int .i64 (nearF W H n f l s)) ∧ Gr w w' := by
  cases hl : isLocB W H n f l
  · have e : nearF W H n f l s = -1 := by simp [nearF, hl]
    rw [e]; exact tnear_no W H a n cap f l s w h hl
  · have e : nearF W H n f l s = stepF W H l s := by simp [nearF, hl]
    rw [e]; exact tnear_yes W H a n cap f l s w h hl

end Go.Proofs.Ytigoehoaplndiaa
