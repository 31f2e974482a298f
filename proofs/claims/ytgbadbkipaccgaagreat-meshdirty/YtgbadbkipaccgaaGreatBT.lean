/- A slice of ints that came in, read by the index. No condition. -/
import Derived.Test.YtgbadbkipaccgaaGreatBW
import Derived.Laws.AppendOwnNone
import Derived.Deep.RegionLaw
import Derived.Deep.RegionHeld3
import Derived.ChangeArms
import Derived.ChangeSlices
namespace Go.Proofs.YtgbadbkipaccgaaGreat
open Go.RowKit
set_option maxRecDepth 20000

def fitsB (s : Int) : Bool := decide (1 ≤ s ∧ s ≤ 16)
theorem fitsB_iff (s : Int) : fitsB s = true ↔ 1 ≤ s ∧ s ≤ 16 := by simp [fitsB]
theorem fitsB_false (s : Int) : fitsB s = false ↔ ¬ (1 ≤ s ∧ s ≤ 16) := by simp [fitsB]
/-- a tile may be -/
def mayTB (W H : Int) (n : Nat) (f : Nat → Int) : Bool := fitsB W && fitsB H && decide ((n : Int) = W * H) && fullB n f
theorem mayTB_iff (W H : Int) (n : Nat) (f : Nat → Int) : mayTB W H n f = true ↔ (1 ≤ W ∧ W ≤ 16) ∧ (1 ≤ H ∧ H ≤ 16) ∧ (n : Int) = W * H ∧ ∀ i, i < n → f i ≠ 0 := by
  simp [mayTB, fitsB_iff, fullB_iff, and_assoc]
theorem mayTB_n {W H : Int} {n : Nat} {f : Nat → Int} (h : mayTB W H n f = true) : 1 ≤ n ∧ n ≤ 256 ∧ (n : Int) = W * H ∧ mayB W H = true := by
  obtain ⟨⟨a, b⟩, ⟨c, d⟩, e, _⟩ := (mayTB_iff W H n f).1 h
  have m := mul_bd (w := W) (h := H) (W := 16) (H := 16) (by omega) b (by omega) d
  have g := Int.mul_le_mul a c (by omega) (by omega : (0 : Int) ≤ W)
  exact ⟨by omega, by omega, e, (mayB_iff _ _).2 ⟨by omega, by omega, by omega, by omega⟩⟩

set_option maxHeartbeats 400000 in
theorem fits_any (s : Int) (w : World) :
    Calls Tryz.prog 97 #[.int .i64 s] w fun e w' => e = .returned (.bool (fitsB s)) ∧ w' = w := by
  by_cases h1 : 1 ≤ s <;> by_cases h2 : s ≤ 16
  all_goals
    go_enter Tryz.func97, Tryz.ntmps97
    go_wp2
    go_ret
    exact ⟨ret_bool (by simp [fitsB, h1, h2]), rfl⟩

set_option maxHeartbeats 1000000 in
theorem tmay_any (W H : Int) (a : Option Addr) (n cap : Nat) (f : Nat → Int) (w : World) (h : Sl w a n f) :
    Calls Tryz.prog 92 #[.agg #[.int .i64 W, .int .i64 H, .slice a n cap]] w fun e w' => e = .returned (.bool (mayTB W H n f)) ∧ Gr w w' := by
  cases hW : fitsB W
  · go_enter Tryz.func92, Tryz.ntmps92
    go_wp2_with (go_at_call 97; refine (fits_any _ _).mono ?_; rintro e w' ⟨rfl, rfl⟩)
    go_ret
    exact ⟨ret_bool (by simp [mayTB, hW]), (by repeat (first | exact Gr.refl _ | assumption | exact Dr.gr (by assumption) | refine Gr.alloc ?_ _ | refine Gr.drewN ?_ _ | refine Gr.drew ?_ | refine Gr.trans ?_ (by assumption) | refine Gr.trans ?_ (Dr.gr (by assumption))))⟩
  cases hH : fitsB H
  · go_enter Tryz.func92, Tryz.ntmps92
    go_wp2_with (go_at_call 97; refine (fits_any _ _).mono ?_; rintro e w' ⟨rfl, rfl⟩)
    go_ret
    exact ⟨ret_bool (by simp [mayTB, hW, hH]), (by repeat (first | exact Gr.refl _ | assumption | exact Dr.gr (by assumption) | refine Gr.alloc ?_ _ | refine Gr.drewN ?_ _ | refine Gr.drew ?_ | refine Gr.trans ?_ (by assumption) | refine Gr.trans ?_ (Dr.gr (by assumption))))⟩
  have w1 := (fitsB_iff W).1 hW
  have w2 := (fitsB_iff H).1 hH
  have m := mul_bd (w := W) (h := H) (W := 16) (H := 16) (by omega) (by omega) (by omega) (by omega)
  by_cases hn : (n : Int) = W * H
  · have HN := hide hn
    have hn' : ((n : Int) == W * H) = true := by simp [hn]
    clear hn
    go_enter Tryz.func92, Tryz.ntmps92
    go_wp2_with (first | (go_at_call 97; refine (fits_any _ _).mono ?_; rintro e w' ⟨rfl, rfl⟩) | (go_at_call 76; refine (indexByte_any _ _ _ f _ (h.gr ((Gr.refl _).alloc _))).mono ?_; rintro e w' ⟨⟨r, rfl, hr⟩, rfl⟩))
    go_ret
    exact ⟨ret_bool (by simp only [mayTB, hW, hH, HN.out, decide_true, Bool.and_true, Bool.true_and]), (by repeat (first | exact Gr.refl _ | assumption | exact Dr.gr (by assumption) | refine Gr.alloc ?_ _ | refine Gr.drewN ?_ _ | refine Gr.drew ?_ | refine Gr.trans ?_ (by assumption) | refine Gr.trans ?_ (Dr.gr (by assumption))))⟩
  · have hn' : ((n : Int) == W * H) = false := by simp [hn]
    go_enter Tryz.func92, Tryz.ntmps92
    go_wp2_with (go_at_call 97; refine (fits_any _ _).mono ?_; rintro e w' ⟨rfl, rfl⟩)
    go_ret
    exact ⟨ret_bool (by simp [mayTB, hW, hH, hn]), (by repeat (first | exact Gr.refl _ | assumption | exact Dr.gr (by assumption) | refine Gr.alloc ?_ _ | refine Gr.drewN ?_ _ | refine Gr.drew ?_ | refine Gr.trans ?_ (by assumption) | refine Gr.trans ?_ (Dr.gr (by assumption))))⟩

def isLocB (W H : Int) (n : Nat) (f : Nat → Int) (l : Int) : Bool := mayTB W H n f && decide (0 ≤ l ∧ l < n)
theorem isLocB_iff (W H : Int) (n : Nat) (f : Nat → Int) (l : Int) : isLocB W H n f l = true ↔ mayTB W H n f = true ∧ 0 ≤ l ∧ l < n := by simp [isLocB]

set_option maxHeartbeats 1000000 in
theorem isLocal_any (W H : Int) (a : Option Addr) (n cap : Nat) (f : Nat → Int) (l : Int) (w : World) (h : Sl w a n f) :
    Calls Tryz.prog 102 #[.agg #[.int .i64 W, .int .i64 H, .slice a n cap], .int .i64 l] w fun e w' => e = .returned (.bool (isLocB W H n f l)) ∧ Gr w w' := by
  cases hm : mayTB W H n f
  · go_enter Tryz.func102, Tryz.ntmps102
    go_wp2_with (go_at_call 92; refine (tmay_any _ _ _ _ _ f _ (h.gr ((Gr.refl _).alloc _))).mono ?_; rintro e w' ⟨rfl, hg⟩; rw [hm])
    go_ret
    exact ⟨ret_bool (by simp [isLocB, hm]), (by repeat (first | exact Gr.refl _ | assumption | exact Dr.gr (by assumption) | refine Gr.alloc ?_ _ | refine Gr.drewN ?_ _ | refine Gr.drew ?_ | refine Gr.trans ?_ (by assumption) | refine Gr.trans ?_ (Dr.gr (by assumption))))⟩
  · by_cases h1 : 0 ≤ l
    · by_cases h2 : l < n
      all_goals
        go_enter Tryz.func102, Tryz.ntmps102
        go_wp2_with (go_at_call 92; refine (tmay_any _ _ _ _ _ f _ (h.gr ((Gr.refl _).alloc _))).mono ?_; rintro e w' ⟨rfl, hg⟩; rw [hm]; obtain ⟨ho, hf, hs⟩ := hg.old)
        go_ret
        exact ⟨ret_bool (by simp [isLocB, hm, h1, h2]), (by repeat (first | exact Gr.refl _ | assumption | exact Dr.gr (by assumption) | refine Gr.alloc ?_ _ | refine Gr.drewN ?_ _ | refine Gr.drew ?_ | refine Gr.trans ?_ (by assumption) | refine Gr.trans ?_ (Dr.gr (by assumption))))⟩
    · go_enter Tryz.func102, Tryz.ntmps102
      go_wp2_with (go_at_call 92; refine (tmay_any _ _ _ _ _ f _ (h.gr ((Gr.refl _).alloc _))).mono ?_; rintro e w' ⟨rfl, hg⟩; rw [hm]; obtain ⟨ho, hf, hs⟩ := hg.old)
      go_ret
      exact ⟨ret_bool (by simp [isLocB, hm]; omega), (by repeat (first | exact Gr.refl _ | assumption | exact Dr.gr (by assumption) | refine Gr.alloc ?_ _ | refine Gr.drewN ?_ _ | refine Gr.drew ?_ | refine Gr.trans ?_ (by assumption) | refine Gr.trans ?_ (Dr.gr (by assumption))))⟩

set_option maxHeartbeats 1000000 in
theorem at_yes (W H : Int) (a : Option Addr) (n cap : Nat) (f : Nat → Int) (k : Nat) (w : World) (h : Sl w a n f) (hl : isLocB W H n f k = true) :
    Calls Tryz.prog 98 #[.agg #[.int .i64 W, .int .i64 H, .slice a n cap], .int .i64 k] w fun e w' => e = .returned (.int .i64 (f k)) ∧ Gr w w' := by
  obtain ⟨_, _, hk⟩ := (isLocB_iff _ _ _ _ _).1 hl
  have hk : k < n := by omega
  have hb := h.byte k hk
  obtain ⟨b, o, rfl, hB, hc⟩ := h.at (by omega)
  have hck := hc k hk
  clear hc
  go_enter Tryz.func98, Tryz.ntmps98
  go_wp2_with (go_at_call 102; refine (isLocal_any _ _ _ _ _ f _ _ (h.gr ((Gr.refl _).alloc _))).mono ?_; rintro e w' ⟨rfl, hg⟩; rw [hl]; obtain ⟨ho, hf, hs⟩ := hg.old)
  go_ret
  exact ⟨rfl, (by repeat (first | exact Gr.refl _ | assumption | exact Dr.gr (by assumption) | refine Gr.alloc ?_ _ | refine Gr.drewN ?_ _ | refine Gr.drew ?_ | refine Gr.trans ?_ (by assumption) | refine Gr.trans ?_ (Dr.gr (by assumption))))⟩

set_option maxHeartbeats 1000000 in
theorem at_no (W H : Int) (a : Option Addr) (n cap : Nat) (f : Nat → Int) (l : Int) (w : World) (h : Sl w a n f) (hl : isLocB W H n f l = false) :
    Calls Tryz.prog 98 #[.agg #[.int .i64 W, .int .i64 H, .slice a n cap], .int .i64 l] w fun e w' => e = .returned (.int .i64 0) ∧ Gr w w' := by
  go_enter Tryz.func98, Tryz.ntmps98
  go_wp2_with (go_at_call 102; refine (isLocal_any _ _ _ _ _ f _ _ (h.gr ((Gr.refl _).alloc _))).mono ?_; rintro e w' ⟨rfl, hg⟩; rw [hl])
  go_ret
  exact ⟨rfl, (by repeat (first | exact Gr.refl _ | assumption | exact Dr.gr (by assumption) | refine Gr.alloc ?_ _ | refine Gr.drewN ?_ _ | refine Gr.drew ?_ | refine Gr.trans ?_ (by assumption) | refine Gr.trans ?_ (Dr.gr (by assumption))))⟩
/-- what At answers -/
def atF (W H : Int) (n : Nat) (f : Nat → Int) (l : Int) : Int := if isLocB W H n f l = true then f l.toNat else 0
theorem at_any (W H : Int) (a : Option Addr) (n cap : Nat) (f : Nat → Int) (l : Int) (w : World) (h : Sl w a n f) :
    Calls Tryz.prog 98 #[.agg #[.int .i64 W, .int .i64 H, .slice a n cap], .int .i64 l] w fun e w' => e = .returned (.int .i64 (atF W H n f l)) ∧ Gr w w' := by
  cases hl : isLocB W H n f l
  · have e : atF W H n f l = 0 := by simp [atF, hl]
    rw [e]; exact at_no W H a n cap f l w h hl
  · obtain ⟨_, h0, _⟩ := (isLocB_iff _ _ _ _ _).1 hl
    have e : atF W H n f l = f l.toNat := by simp [atF, hl]
    obtain ⟨k, rfl⟩ := Int.eq_ofNat_of_zero_le h0
    rw [e]; exact at_yes W H a n cap f k w h hl

theorem loc_cell {W H : Int} {n : Nat} {f : Nat → Int} {l : Int} (h : isLocB W H n f l = true) : isCellB W H l = true := by
  obtain ⟨m, a, b⟩ := (isLocB_iff _ _ _ _ _).1 h
  obtain ⟨_, _, e, mm⟩ := mayTB_n m
  exact (isCellB_iff _ _ _).2 ⟨mm, a, by omega⟩
/-- what Near answers -/
def nearF (W H : Int) (n : Nat) (f : Nat → Int) (l s : Int) : Int := if isLocB W H n f l = true then stepF W H l s else -1

set_option maxHeartbeats 1000000 in
theorem tnear_no (W H : Int) (a : Option Addr) (n cap : Nat) (f : Nat → Int) (l s : Int) (w : World) (h : Sl w a n f) (hl : isLocB W H n f l = false) :
    Calls Tryz.prog 99 #[.agg #[.int .i64 W, .int .i64 H, .slice a n cap], .int .i64 l, .int .i64 s] w fun e w' => e = .returned (.int .i64 (-1)) ∧ Gr w w' := by
  go_enter Tryz.func99, Tryz.ntmps99
  go_wp2_with (go_at_call 102; refine (isLocal_any _ _ _ _ _ f _ _ (h.gr ((Gr.refl _).alloc _))).mono ?_; rintro e w' ⟨rfl, hg⟩; rw [hl])
  go_ret
  exact ⟨rfl, (by repeat (first | exact Gr.refl _ | assumption | exact Dr.gr (by assumption) | refine Gr.alloc ?_ _ | refine Gr.drewN ?_ _ | refine Gr.drew ?_ | refine Gr.trans ?_ (by assumption) | refine Gr.trans ?_ (Dr.gr (by assumption))))⟩

set_option maxHeartbeats 2000000 in
theorem tnear_yes (W H : Int) (a : Option Addr) (n cap : Nat) (f : Nat → Int) (l s : Int) (w : World) (h : Sl w a n f) (hl : isLocB W H n f l = true) :
    Calls Tryz.prog 99 #[.agg #[.int .i64 W, .int .i64 H, .slice a n cap], .int .i64 l, .int .i64 s] w fun e w' => e = .returned (.int .i64 (stepF W H l s)) ∧ Gr w w' := by
  have hc := loc_cell hl
  obtain ⟨p1, p2, p3, p4, _⟩ := place_bd hc
  obtain ⟨m, _, _⟩ := (isCellB_iff _ _ _).1 hc
  obtain ⟨m1, m2, m3, m4⟩ := (mayB_iff _ _).1 m
  have HS : Hid (stepF W H l s = if s = 0 then cellF W H (l % W) (l / W - 1) else if s = 1 then cellF W H (l % W + 1) (l / W) else if s = 2 then cellF W H (l % W) (l / W + 1)
     else if s = 3 then cellF W H (l % W - 1) (l / W) else if s = 4 then cellF W H (l % W) (l / W) else -1) := hide (by unfold stepF; rw [if_pos hc])
  rcases (by omega : s = 0 ∨ s = 1 ∨ s = 2 ∨ s = 3 ∨ s = 4 ∨ (s < 0 ∨ 4 < s)) with rfl | rfl | rfl | rfl | rfl | hs
  all_goals
    go_enter Tryz.func99, Tryz.ntmps99
    go_wp2_with (first | (go_at_call 102; refine (isLocal_any _ _ _ _ _ f _ _ (h.gr ((Gr.refl _).alloc _))).mono ?_; rintro e w' ⟨rfl, hg⟩; rw [hl]; obtain ⟨ho, hf, hs⟩ := hg.old) | (go_at_call 52; refine (place_yes _ _ _ _ hc).mono ?_; rintro e w' ⟨rfl, q, rfl⟩) | (go_at_call 62; refine (cell_any _ _ _ _ _).mono ?_; rintro e w' ⟨rfl, q, rfl⟩))
    go_ret
    exact ⟨ret_int (by rw [HS.out]; repeat (first | rfl | rw [if_pos rfl] | rw [if_neg (by omega)] | (congr 1; omega))), (by repeat (first | exact Gr.refl _ | assumption | exact Dr.gr (by assumption) | refine Gr.alloc ?_ _ | refine Gr.drewN ?_ _ | refine Gr.drew ?_ | refine Gr.trans ?_ (by assumption) | refine Gr.trans ?_ (Dr.gr (by assumption))))⟩

theorem tnear_any (W H : Int) (a : Option Addr) (n cap : Nat) (f : Nat → Int) (l s : Int) (w : World) (h : Sl w a n f) :
    Calls Tryz.prog 99 #[.agg #[.int .i64 W, .int .i64 H, .slice a n cap], .int .i64 l, .int .i64 s] w fun e w' => e = .returned (.int .i64 (nearF W H n f l s)) ∧ Gr w w' := by
  cases hl : isLocB W H n f l
  · have e : nearF W H n f l s = -1 := by simp [nearF, hl]
    rw [e]; exact tnear_no W H a n cap f l s w h hl
  · have e : nearF W H n f l s = stepF W H l s := by simp [nearF, hl]
    rw [e]; exact tnear_yes W H a n cap f l s w h hl

theorem info_u8 : (Tryz.prog.info? 5).map (fun i => (i.zero, i.size, i.bytes)) = some (some (.int .u8 0), 1, 1) := by kernel_rfl
theorem info_int : (Tryz.prog.info? 3).map (fun i => (i.zero, i.size, i.bytes)) = some (some (.int .i64 0), 1, 8) := by kernel_rfl

/-- the cells of a row, by the index -/
def cel (k : IntKind) (n : Nat) (f : Nat → Int) : List Value := (List.range n).map fun i => .int k (f i)
theorem cel_len (k : IntKind) (n : Nat) (f : Nat → Int) : (cel k n f).length = n := by simp [cel]
theorem cel_get (k : IntKind) (n : Nat) (f : Nat → Int) {i : Nat} (h : i < n) : (cel k n f)[i]? = some (.int k (f i)) := by simp [cel, h]
theorem cel_one (k : IntKind) (n : Nat) (f : Nat → Int) : ∀ u ∈ cel k n f, u.oneCell' = true := by
  intro u hu
  obtain ⟨i, _, rfl⟩ := List.mem_map.1 hu
  rfl
theorem cel_congr {k : IntKind} {n : Nat} {f g : Nat → Int} (h : ∀ i, i < n → f i = g i) : cel k n f = cel k n g := by
  unfold cel
  exact List.map_congr_left fun i hi => by rw [h i (List.mem_range.1 hi)]
theorem cel_succ (k : IntKind) (n : Nat) (f : Nat → Int) : cel k (n + 1) f = cel k n f ++ [.int k (f n)] := by simp [cel, List.range_succ]
theorem cel_set (k : IntKind) (n : Nat) (f : Nat → Int) (j : Nat) (x : Int) : (cel k n f).set j (.int k x) = cel k n (fun i => if i = j then x else f i) := by
  apply List.ext_getElem?
  intro i
  rw [List.getElem?_set]
  by_cases hi : i < n
  · rw [cel_get _ _ _ hi, cel_get _ _ _ hi]
    by_cases e : j = i
    · subst e; simp [cel_len, hi]
    · rw [if_neg e, if_neg (by omega)]
  · have h1 : (cel k n f)[i]? = none := by simp [cel_len]; omega
    have h2 : (cel k n fun i => if i = j then x else f i)[i]? = none := by simp [cel_len]; omega
    rw [h1, h2]
    split <;> simp [cel_len]; omega

/-- The slice at a, of n ints, reads as f. -/
def SlI (w : World) (a : Option Addr) (n : Nat) (f : Nat → Int) : Prop :=
  n = 0 ∨ ∃ b o, a = some ⟨b, o, none⟩ ∧ b < w.heap.size ∧ ∀ i, i < n → w.cell? ⟨b, o + i, none⟩ = some (.int .i64 (f i))
theorem SlI.gr {w w' : World} {a : Option Addr} {n : Nat} {f : Nat → Int} (h : SlI w a n f) (g : Gr w w') : SlI w' a n f := by
  rcases h with h0 | ⟨b, o, rfl, hb, hc⟩
  · exact .inl h0
  · exact .inr ⟨b, o, rfl, Nat.lt_of_lt_of_le hb g.size, fun i hi => by rw [g.cell b _ hb]; exact hc i hi⟩
theorem SlI.at {w : World} {a : Option Addr} {n : Nat} {f : Nat → Int} (h : SlI w a n f) (hn : 0 < n) : ∃ b o, a = some ⟨b, o, none⟩ ∧ b < w.heap.size ∧ ∀ i, i < n → w.cell? ⟨b, o + i, none⟩ = some (.int .i64 (f i)) := by
  rcases h with h0 | h1
  · omega
  · exact h1

theorem own_form {w : World} {base : Nat} {e : TypeId} {v : Value} {n : Nat} {k : IntKind} {f : Nat → Int} (h : w.ownsRow base e 1 v n (cel k n f)) :
    ∃ a cap, v = .slice a n cap ∧ n ≤ cap ∧ cap ≤ maxLen ∧ (n = 0 ∨ ∃ g, a = some ⟨g, 0, none⟩ ∧ base ≤ g ∧ g < w.heap.size ∧ ∀ i, i < n → w.cell? ⟨g, 0 + i, none⟩ = some (.int k (f i))) := by
  rcases h.2 with ⟨rfl, rfl⟩ | ⟨g, cap, cur, rfl, hb, hg, hn, hm, hs, ht⟩
  · exact ⟨none, 0, rfl, Nat.le_refl _, Nat.zero_le _, .inl rfl⟩
  · refine ⟨_, cap, rfl, hn, hm, .inr ⟨g, rfl, hb, (Array.getElem?_eq_some_iff.1 hg).1, fun i hi => ?_⟩⟩
    rw [Nat.zero_add, h.cellAt i (by omega), cel_get _ _ _ hi]
theorem Sl.of_own {w : World} {base : Nat} {e : TypeId} {v : Value} {n : Nat} {f : Nat → Int} (h : w.ownsRow base e 1 v n (cel .u8 n f)) (hb : ∀ i, i < n → 0 ≤ f i ∧ f i ≤ 255) :
    ∃ a cap, v = .slice a n cap ∧ n ≤ cap ∧ cap ≤ maxLen ∧ Sl w a n f := by
  obtain ⟨a, cap, rfl, h1, h2, h3⟩ := own_form h
  refine ⟨a, cap, rfl, h1, h2, hb, ?_⟩
  rcases h3 with h3 | ⟨g, rfl, _, hg, hc⟩
  · exact .inl h3
  · exact .inr ⟨g, 0, rfl, hg, hc⟩
theorem SlI.of_own {w : World} {base : Nat} {e : TypeId} {v : Value} {n : Nat} {f : Nat → Int} (h : w.ownsRow base e 1 v n (cel .i64 n f)) :
    ∃ a cap, v = .slice a n cap ∧ n ≤ cap ∧ cap ≤ maxLen ∧ SlI w a n f := by
  obtain ⟨a, cap, rfl, h1, h2, h3⟩ := own_form h
  refine ⟨a, cap, rfl, h1, h2, ?_⟩
  rcases h3 with h3 | ⟨g, rfl, _, hg, hc⟩
  · exact .inl h3
  · exact .inr ⟨g, 0, rfl, hg, hc⟩
theorem own_gr {w w' : World} {base : Nat} {e : TypeId} {v : Value} {n : Nat} {xs : List Value} (h : w.ownsRow base e 1 v n xs) (g : Gr w w') : w'.ownsRow base e 1 v n xs := by
  refine ⟨h.1, ?_⟩
  rcases h.2 with h0 | ⟨b, cap, cur, rfl, hb, hg, r⟩
  · exact .inl h0
  · exact .inr ⟨b, cap, cur, rfl, hb, (Below.block g b (Array.getElem?_eq_some_iff.1 hg).1).trans hg, r⟩

/-- the bytes as a string -/
def strF (n : Nat) (f : Nat → Int) : ByteArray := ⟨(Lib.bytesOf (lst n f)).toArray⟩
theorem run_conv {w : World} {a : Option Addr} {n : Nat} {f : Nat → Int} (h : Sl w a n f) (cap : Nat) :
    (convert 22 9 (.slice a n cap)).run Tryz.prog w = .ok (.string (strF n f)) w := by
  rcases h.has with h0 | ⟨b, o, rfl, _, hc⟩
  · subst h0
    rw [run_convert_bytes_string w 22 9 5 a 0 cap Tryz.underlying22 Tryz.underlying5 Tryz.underlying9]
    cases a <;> rfl
  · have hl : (Lib.bytesOf (lst n f)).length = n := by rw [Lib.bytesOf_length, lst_len]
    have := run_convert_bytes_back (P := Tryz.prog) w 22 9 5 ⟨b, o, none⟩ cap (Lib.bytesOf (lst n f)) Tryz.underlying22 Tryz.underlying5 Tryz.underlying9 (fun j hj => by
      have hj' : j < n := by omega
      have hb := h.byte j hj'
      have e : (⟨b, o, none⟩ : Addr).add j = ⟨b, o + j, none⟩ := by unfold Addr.add; split <;> simp_all
      rw [e, hc j hj']
      congr 2
      simp only [Lib.bytesOf, lst, List.getElem_map, List.getElem_range, UInt8.toNat_ofNat']
      omega)
    rw [hl] at this
    exact this
/-- two slices hold the same -/
def sameB (n : Nat) (f : Nat → Int) (m : Nat) (g : Nat → Int) : Bool := decide (n = m ∧ ∀ i, i < n → f i = g i)
theorem sameB_iff (n : Nat) (f : Nat → Int) (m : Nat) (g : Nat → Int) : sameB n f m g = true ↔ n = m ∧ ∀ i, i < n → f i = g i := by simp [sameB]
theorem strF_eq {n m : Nat} {f g : Nat → Int} (hf : ∀ i, i < n → 0 ≤ f i ∧ f i ≤ 255) (hg : ∀ i, i < m → 0 ≤ g i ∧ g i ≤ 255) : strF n f = strF m g ↔ n = m ∧ ∀ i, i < n → f i = g i := by
  constructor
  · intro h
    have h1 : Lib.bytesOf (lst n f) = Lib.bytesOf (lst m g) := by
      have := congrArg ByteArray.data h
      simpa [strF] using this
    have hl : n = m := by
      have := congrArg List.length h1
      simpa [Lib.bytesOf, lst_len] using this
    subst hl
    refine ⟨rfl, fun i hi => ?_⟩
    have := congrArg (fun l => l[i]?) h1
    simp only [Lib.bytesOf, List.getElem?_map, lst_get? n f hi, lst_get? n g hi, Option.map_some, Option.some.injEq] at this
    exact (byte_eq (hf i hi) (hg i hi)).1 this
  · rintro ⟨rfl, h⟩
    have : lst n f = lst n g := List.map_congr_left fun i hi => h i (List.mem_range.1 hi)
    simp [strF, this]

theorem strF_dec {n m : Nat} {f g : Nat → Int} (hf : ∀ i, i < n → 0 ≤ f i ∧ f i ≤ 255) (hg : ∀ i, i < m → 0 ≤ g i ∧ g i ≤ 255) : ((strF n f).toList == (strF m g).toList) = sameB n f m g := by
  rw [Bool.eq_iff_iff, beq_iff_eq, sameB_iff, ← strF_eq hf hg, Lib.toList_data, Lib.toList_data]
  constructor
  · intro h
    exact ByteArray.ext (Array.toList_inj.1 h)
  · intro h; rw [h]

set_option maxHeartbeats 2000000 in
theorem clone_any (a : Option Addr) (n c : Nat) (f : Nat → Int) (w : World) (h : Sl w a n f) (hn : 0 < n) (hbig : n ≤ 140737488355328) :
    Calls Tryz.prog 75 #[.slice a n c] w fun e w' => (∃ g c', e = .returned (.slice (some ⟨g, 0, none⟩) n c') ∧ w'.ownsRow w.heap.size 5 1 (.slice (some ⟨g, 0, none⟩) n c') n (cel .u8 n f) ∧ w.heap.size ≤ g) ∧ Gr w w' := by
  obtain ⟨i0, hi, hz0, hz1, hz2⟩ := info_parts info_u8
  have q22 : ∀ (w : World) (a : Option Addr) (n c n' c' : Nat), (binOp .eql 22 (.slice a n c) (.slice none n' c')).run Tryz.prog w = .ok (.bool a.isNone) w := fun w a n c n' c' => Lib.run_eql_slice_nil w _ _ a n c n' c' Tryz.underlying22
  obtain ⟨b, o, rfl, hB, hc⟩ := h.at hn
  have HC := hide hc
  clear hc
  go_enter Tryz.func75, Tryz.ntmps75
  go_wp2_with (at_builtin; refine wpList_append_own _ rfl _ _ 22 rfl w.heap.size 5 i0 (.int .u8 0) 1 1 Tryz.underlying22 hi hz0 hz1 hz2 rfl (by decide) _ _ _ rfl (World.ownsRow_made w #[] 0 (Nat.le_refl _) (Nat.zero_le _) rfl) ⟨b, o, none⟩ n c (cel .u8 n f) rfl ?qc1 ?qc2 (cel_one _ _ _) ?qc4 ?qc5 ?qc6 ?_)
  case qc1 => simp [cel_len]
  case qc2 =>
    intro j u hj
    have hjn : j < n := by
      have := (List.getElem?_eq_some_iff.1 hj).1
      rw [cel_len] at this
      exact this
    have e : (⟨b, o, none⟩ : Addr).add j = ⟨b, o + j, none⟩ := by unfold Addr.add; split <;> simp_all
    rw [cel_get _ _ _ hjn] at hj
    rw [e, ((Gr.refl w).alloc _).cell b _ hB, HC.out j hjn]
    exact hj
  case qc4 => unfold maxLen; omega
  case qc5 => omega
  case qc6 => simp
  intro v' w1 hown hgrow hnil
  obtain ⟨a', c', rfl, _, _, hh⟩ := own_form hown
  rcases hh with hh | ⟨g, rfl, hge, _, _⟩
  · omega
  go_wp2
  go_ret
  refine ⟨⟨g, c', rfl, hown, hge⟩, ?_⟩
  exact Gr.grown ((Gr.refl w).alloc _) hgrow (by intro k hk; simp [Value.ownBlock] at hk; omega)

/-- two tiles are the same -/
def sameTB (W H : Int) (n : Nat) (f : Nat → Int) (W' H' : Int) (m : Nat) (g : Nat → Int) : Bool := decide (W = W') && decide (H = H') && sameB n f m g

/-- f with x at j -/
def upd (f : Nat → Int) (j : Nat) (x : Int) : Nat → Int := fun i => if i = j then x else f i

theorem with_end {w2 : World} {base g n c' B : Nat} {f : Nat → Int} (hown : w2.ownsRow base 5 1 (.slice (some ⟨g, 0, none⟩) n c') n (cel .u8 n f)) (hB : B < base) (hf : ∀ i, i < n → 0 ≤ f i ∧ f i ≤ 255) {k : Nat} {x : Int} (hx : 0 ≤ x ∧ x ≤ 255) (v0 v1 v2 : Value) :
    n ≤ c' ∧ c' ≤ maxLen ∧ Sl ((((w2.setCell ⟨g, k, none⟩ (.int .u8 x)).setCell ⟨B, 0, none⟩ v0).setCell ⟨B, 1, none⟩ v1).setCell ⟨B, 2, none⟩ v2) (some ⟨g, 0, none⟩) n (upd f k x) := by
  have h1 := (hown.stored k (.int .u8 x)).1
  rw [cel_set] at h1
  have h2 := ownsRow_setCell_below (ownsRow_setCell_below (ownsRow_setCell_below h1 (a := ⟨B, 0, none⟩) hB v0) (a := ⟨B, 1, none⟩) hB v1) (a := ⟨B, 2, none⟩) hB v2
  obtain ⟨a, cap, e, q1, q2, q3⟩ := Sl.of_own (f := upd f k x) h2 (fun i hi => by unfold upd; split; exact hx; exact hf i hi)
  simp only [Value.slice.injEq] at e
  obtain ⟨rfl, _, rfl⟩ := e
  exact ⟨q1, q2, q3⟩

/-- the locals that are no walls, rising -/
def openL (n : Nat) (f : Nat → Int) : List Nat := (List.range n).filter fun i => f i != 255
theorem openL_yes (n : Nat) (f : Nat → Int) (h : f n ≠ 255) : openL (n + 1) f = openL n f ++ [n] := by simp [openL, List.range_succ, List.filter_append, h]
theorem openL_no (n : Nat) (f : Nat → Int) (h : f n = 255) : openL (n + 1) f = openL n f := by simp [openL, List.range_succ, List.filter_append, h]
theorem openL_le (n : Nat) (f : Nat → Int) : (openL n f).length ≤ n := by
  have := List.length_filter_le (fun i => f i != 255) (List.range n)
  simpa [openL] using this
def openV (n : Nat) (f : Nat → Int) : List Value := (openL n f).map fun i : Nat => Value.int .i64 (i : Int)
/-- the j-th of them -/
def openF (n : Nat) (f : Nat → Int) (j : Nat) : Int := ((openL n f).getD j 0 : Nat)
theorem openV_cel (n : Nat) (f : Nat → Int) : openV n f = cel .i64 (openL n f).length (openF n f) := by
  apply List.ext_getElem?
  intro i
  by_cases hi : i < (openL n f).length
  · rw [cel_get _ _ _ hi]
    simp [openV, openF, hi]
  · have h1 : (openV n f)[i]? = none := by simp [openV]; omega
    rw [h1]; symm; simp [cel_len]; omega

theorem alloc_one (w : World) (v : Value) (t : TypeId) : ∀ j u, [v][j]? = some u → (w.alloc (.cells #[v] t)).cell? ((⟨w.heap.size, 0, none⟩ : Addr).add j) = some u := by
  intro j u hj
  match j, hj with
  | 0, hj => simp at hj; subst hj; simp [Addr.add]

set_option maxHeartbeats 1000000 in
theorem rbytes_any (a b : Option Addr) (n c m d : Nat) (f g : Nat → Int) (w : World) (h : Sl w a n f) (k : Sl w b m g) :
    Calls Tryz.prog 55 #[.slice a n c, .slice b m d] w fun e w' => e = .returned (.bool (sameB n f m g)) ∧ w' = w := by
  have h1 := run_conv h c
  have h2 := run_conv k d
  go_enter Tryz.func55, Tryz.ntmps55
  go_wp2
  go_ret
  exact ⟨ret_bool (strF_dec h.byte k.byte), rfl⟩

/-- the cost that a number makes -/
def costF (x : Int) : Int := if x % 8 = 7 then 255 else if x < 160 then 1 + x % 4 else x
theorem costF_bd {x : Int} (h : 0 ≤ x ∧ x ≤ 255) : 1 ≤ costF x ∧ costF x ≤ 255 := by
  unfold costF
  split
  · omega
  · split <;> omega

set_option maxHeartbeats 1000000 in
theorem cost_any (x : Int) (w : World) (h : 0 ≤ x ∧ x ≤ 255) :
    Calls Tryz.prog 58 #[.int .u8 x] w fun e w' => e = .returned (.int .u8 (costF x)) ∧ w' = w := by
  obtain ⟨x0, x1⟩ := h
  by_cases h7 : x % 8 = 7
  · have h7' : (x % 8 == 7) = true := by simp [h7]
    have E : Hid (costF x = 255) := hide (by simp [costF, h7])
    clear h7
    go_enter Tryz.func58, Tryz.ntmps58
    go_wp2
    go_ret
    exact ⟨ret_int (by rw [E.out]), rfl⟩
  · have h7' : (x % 8 == 7) = false := by simp [h7]
    by_cases h1 : x < 160
    · have E : Hid (costF x = 1 + x % 4) := hide (by simp [costF, h7, h1])
      have b0 : 0 ≤ x % 4 ∧ x % 4 < 4 := by omega
      clear h7
      go_enter Tryz.func58, Tryz.ntmps58
      go_wp2
      go_ret
      exact ⟨ret_int (by rw [E.out]), rfl⟩
    · have E : Hid (costF x = x) := hide (by simp [costF, h7, h1])
      clear h7
      go_enter Tryz.func58, Tryz.ntmps58
      go_wp2
      go_ret
      exact ⟨ret_int (by rw [E.out]), rfl⟩

theorem own_mono {w : World} {base base' : Nat} {e : TypeId} {v : Value} {n : Nat} {xs : List Value} (h : w.ownsRow base e 1 v n xs) (hb : base' ≤ base) : w.ownsRow base' e 1 v n xs := by
  refine ⟨h.1, ?_⟩
  rcases h.2 with h0 | ⟨b, cap, cur, rfl, hb', r⟩
  · exact .inl h0
  · exact .inr ⟨b, cap, cur, rfl, by omega, r⟩

theorem cel_at {w : World} {b o n : Nat} {f : Nat → Int} (hc : ∀ i, i < n → w.cell? ⟨b, o + i, none⟩ = some (.int .u8 (f i))) (hB : b < w.heap.size) {w' : World} (g : Gr w w') :
    ∀ j u, (cel .u8 n f)[j]? = some u → w'.cell? ((⟨b, o, none⟩ : Addr).add j) = some u := by
  intro j u hj
  have hjn : j < n := by
    have := (List.getElem?_eq_some_iff.1 hj).1
    rw [cel_len] at this
    exact this
  have e : (⟨b, o, none⟩ : Addr).add j = ⟨b, o + j, none⟩ := by unfold Addr.add; split <;> simp_all
  rw [cel_get _ _ _ hjn] at hj
  rw [e, g.cell b _ hB, hc j hjn]
  exact hj

/-- an owned row of bytes, not nil -/
structure OwnB (w : World) (base g n c : Nat) (f : Nat → Int) : Prop where
  own : w.ownsRow base 5 1 (.slice (some ⟨g, 0, none⟩) n c) n (cel .u8 n f)
  byte : ∀ i, i < n → 0 ≤ f i ∧ f i ≤ 255
theorem OwnB.sl {w : World} {base g n c : Nat} {f : Nat → Int} (h : OwnB w base g n c f) : n ≤ c ∧ c ≤ maxLen ∧ base ≤ g ∧ g < w.heap.size ∧ Sl w (some ⟨g, 0, none⟩) n f := by
  obtain ⟨a, cap, e, q1, q2, q3⟩ := Sl.of_own h.own h.byte
  simp only [Value.slice.injEq] at e
  obtain ⟨rfl, _, rfl⟩ := e
  have := h.own.lt g rfl
  exact ⟨q1, q2, this.1, this.2, q3⟩
theorem OwnB.gr {w w' : World} {base g n c : Nat} {f : Nat → Int} (h : OwnB w base g n c f) (k : Gr w w') : OwnB w' base g n c f := ⟨own_gr h.own k, h.byte⟩

theorem own_some {w1 : World} {base n : Nat} {f : Nat → Int} {v v' : Value} (hown : w1.ownsRow base 5 1 v' (0 + n) ([] ++ cel .u8 n f)) (hnil : v' = .slice none 0 0 ↔ v = .slice none 0 0 ∧ n = 0) (hv : ¬ v = .slice none 0 0) :
    ∃ g c', v' = .slice (some ⟨g, 0, none⟩) n c' ∧ w1.ownsRow base 5 1 (.slice (some ⟨g, 0, none⟩) n c') n (cel .u8 n f) ∧ base ≤ g := by
  rw [Nat.zero_add, List.nil_append] at hown
  rcases hown.2 with ⟨h0, _⟩ | ⟨g, cap, cur, rfl, hb, r⟩
  · exact absurd (hnil.1 h0).1 hv
  · exact ⟨g, cap, rfl, hown, hb⟩
theorem ownTile_end {w1 : World} {base B : Nat} {n g c' : Nat} {f : Nat → Int} (hf : ∀ i, i < n → 0 ≤ f i ∧ f i ≤ 255) (hown : w1.ownsRow base 5 1 (.slice (some ⟨g, 0, none⟩) n c') n (cel .u8 n f)) (hB : B + 2 ≤ base) (x0 x1 x2 y : Value) :
    OwnB ((((w1.setCell ⟨B, 2, none⟩ y).setCell ⟨B + 1, 0, none⟩ x0).setCell ⟨B + 1, 1, none⟩ x1).setCell ⟨B + 1, 2, none⟩ x2) B g n c' f := by
  refine ⟨own_mono (base := base) ?_ (by omega), hf⟩
  exact ownsRow_setCell_below (ownsRow_setCell_below (ownsRow_setCell_below (ownsRow_setCell_below hown (a := ⟨B, 2, none⟩) (by show B < base; omega) y) (a := ⟨B + 1, 0, none⟩) (by show B + 1 < base; omega) x0) (a := ⟨B + 1, 1, none⟩) (by show B + 1 < base; omega) x1) (a := ⟨B + 1, 2, none⟩) (by show B + 1 < base; omega) x2

theorem step_append_own {P : Program} {ops : Array Oper} {o : Oper} {a : Act} {w : World} {K : Act → World → Prop} {Q : Exit → Act → World → Prop} {E : Prop}
    (hg : o.guard = none) (s x : Operand) (t : TypeId) (ho : o.op = Op.call { callee := Callee.builtin Builtin.append, args := #[s, x], argTypes := #[t, t] })
    (base : Nat) (e : TypeId) (i : TypeInfo) (z : Value) (size bytes : Nat) (ht : P.underlying t = some (.slice e)) (hi : P.info? e = some i) (hz : i.zero = some z)
    (hsize : i.size = size) (hby : i.bytes = bytes) (hzs : z.cells.size = size) (hsz : 0 < size)
    (v : Value) (n : Nat) (xs : List Value) (hs : a.eval s = v) (hown : w.ownsRow base e size v n xs)
    (ad : Addr) (m c : Nat) (news : List Value) (hx : a.eval x = .slice (some ad) m c) (hl : news.length = m * size) (hnews : ∀ j u, news[j]? = some u → w.cell? (ad.add j) = some u) (h1 : ∀ u ∈ news, u.oneCell' = true)
    (h63 : n + m ≤ maxLen) (hbytes : (n + m) * bytes ≤ 140737488355328) (hbase : base ≤ w.heap.size)
    (hK : ∀ v' w', w'.ownsRow base e size v' (n + m) (xs ++ news) → w.grownBy w' v.ownBlock → K (a.put o.dst v') w') :
    if Region.wanted o (yielded ops a.tmps) = true then Oper.wp P o a w K Q else E := by
  have hw : Region.wanted o (yielded ops a.tmps) = true := by simp [Region.wanted, hg]
  rw [if_pos hw]
  exact wp_append_own w s x t ho base e i z size bytes ht hi hz hsize hby hzs hsz v n xs hs hown ad m c news hx hl hnews h1 h63 hbytes hbase fun v' w' r1 r2 _ => hK v' w' r1 r2

set_option maxHeartbeats 400000 in
theorem within_st (n lo hi : Int) (w : World) (h : lo ≤ hi) (hl : -4611686018427387904 ≤ lo * 4) (hh : hi * 4 ≤ 4611686018427387904) :
    Calls Tryz.prog 10 #[.int .i64 n, .int .i64 lo, .int .i64 hi] w fun e w' => e = .returned (.int .i64 (withinF n lo hi)) ∧ w' = w := by
  have b := tmod_bd n (hi - lo + 1) (by omega)
  have hz : ((hi - lo + 1) == 0) = false := by simp; omega
  by_cases g : n.tmod (hi - lo + 1) < 0
  · have e := tmod_neg n (hi - lo + 1) (by omega) g
    have H : Hid (withinF n lo hi = lo + (n.tmod (hi - lo + 1) + hi - lo + 1)) := hide (by unfold withinF; omega)
    clear e
    go_enter Tryz.func10, Tryz.ntmps10
    go_wp2
    go_ret
    exact ⟨ret_int (by rw [H.out]), rfl⟩
  · have e := tmod_pos n (hi - lo + 1) (by omega) g
    have H : Hid (withinF n lo hi = lo + (n.tmod (hi - lo + 1))) := hide (by unfold withinF; omega)
    clear e
    go_enter Tryz.func10, Tryz.ntmps10
    go_wp2
    go_ret
    exact ⟨ret_int (by rw [H.out]), rfl⟩

/-- the cost that a tile of numbers has at a local -/
def madeF (n : Nat) (f : Nat → Int) (i : Nat) : Int := costF (if n = 0 then 1 else f ((i + i / n * 5) % n))
theorem madeF_bd {n : Nat} {f : Nat → Int} (hf : ∀ i, i < n → 0 ≤ f i ∧ f i ≤ 255) (i : Nat) : 1 ≤ madeF n f i ∧ madeF n f i ≤ 255 := by
  unfold madeF
  apply costF_bd
  split
  · omega
  · exact hf _ (Nat.mod_lt _ (by omega))
/-- three cells -/
def tri (x y z : Value) : Nat → Value := fun j => if j = 0 then x else if j = 1 then y else z
theorem tri_0 (x y z : Value) : tri x y z 0 = x := rfl
theorem tri_1 (x y z : Value) : tri x y z 1 = y := rfl
theorem tri_2 (x y z : Value) : tri x y z 2 = z := rfl
theorem tri_set (x y z v : Value) : ∀ i, i < 3 → (if i = 2 then v else tri x y z i) = tri x y v i := by
  intro i hi
  rcases (by omega : i = 0 ∨ i = 1 ∨ i = 2) with rfl | rfl | rfl <;> simp [tri]
theorem tri_alloc (w : World) (x y z : Value) (t : TypeId) : (w.alloc (.cells #[x, y, z] t)).rowIs w.heap.size t 3 (tri x y z) :=
  World.rowIs_alloc w #[x, y, z] t (tri x y z) (fun i hi => by
    have hi : i < 3 := hi
    rcases (by omega : i = 0 ∨ i = 1 ∨ i = 2) with rfl | rfl | rfl <;> rfl)
theorem row_gr {w w' : World} {b t n : Nat} {g : Nat → Value} (h : w.rowIs b t n g) (k : Gr w w') : w'.rowIs b t n g := h.of_block (Below.block k b h.lt)
theorem row_grown {w w' : World} {b t n : Nat} {g : Nat → Value} {row : Option Nat} (h : w.rowIs b t n g) (k : w.grownBy w' row) (hr : ∀ q, row = some q → q ≠ b) : w'.rowIs b t n g :=
  h.of_block (k.block b h.lt (fun e => hr b e.symm rfl))

theorem made_step {w wr u w1 : World} {B k c0 : Nat} {a0 : Option Addr} {F : Nat → Int} {t : TypeId} {g1 g0 : Nat → Value} {v' : Value} {p : Int}
    (hown : wr.ownsRow (B + 2) 5 1 (.slice a0 k c0) k (cel .u8 k F)) (hr1 : wr.rowIs (B + 1) t 3 g1) (hr0 : wr.rowIs B t 3 g0) (hgr : Gr w wr) (hB : w.heap.size = B) (hu : Gr wr u)
    (hown' : w1.ownsRow (B + 2) 5 1 v' (k + 1) (cel .u8 k F ++ [.int .u8 p])) (hgrow : u.grownBy w1 (Value.slice a0 k c0).ownBlock) (hp : F k = p) :
    ∃ a1 c1, v' = .slice a1 (k + 1) c1 ∧ w1.ownsRow (B + 2) 5 1 (.slice a1 (k + 1) c1) (k + 1) (cel .u8 (k + 1) F) ∧ w1.rowIs (B + 1) t 3 g1 ∧ w1.rowIs B t 3 g0 ∧ Gr w w1 := by
  rw [← hp, ← cel_succ] at hown'
  obtain ⟨a1, c1, rfl, _⟩ := own_form hown'
  have hl := hown.lt
  exact ⟨a1, c1, rfl, hown', row_grown (row_gr hr1 hu) hgrow (fun q e => by have := (hl q e).1; omega), row_grown (row_gr hr0 hu) hgrow (fun q e => by have := (hl q e).1; omega),
    Gr.grown (hgr.trans hu) hgrow (fun q e => by have := (hl q e).1; omega)⟩

theorem made_next {w w1 : World} {B k c1 : Nat} {a1 : Option Addr} {F : Nat → Int} {t : TypeId} {x y z : Value} {g0 : Nat → Value}
    (hown : w1.ownsRow (B + 2) 5 1 (.slice a1 (k + 1) c1) (k + 1) (cel .u8 (k + 1) F)) (hr1 : w1.rowIs (B + 1) t 3 (tri x y z)) (hr0 : w1.rowIs B t 3 g0) (hgr : Gr w w1) (hB : w.heap.size = B) :
    (w1.setCell ⟨B + 1, 2, none⟩ (.slice a1 (k + 1) c1)).ownsRow (B + 2) 5 1 (.slice a1 (k + 1) c1) (k + 1) (cel .u8 (k + 1) F) ∧ (w1.setCell ⟨B + 1, 2, none⟩ (.slice a1 (k + 1) c1)).rowIs (B + 1) t 3 (tri x y (.slice a1 (k + 1) c1)) ∧
      (w1.setCell ⟨B + 1, 2, none⟩ (.slice a1 (k + 1) c1)).rowIs B t 3 g0 ∧ Gr w (w1.setCell ⟨B + 1, 2, none⟩ (.slice a1 (k + 1) c1)) :=
  ⟨ownsRow_setCell_below hown (a := ⟨B + 1, 2, none⟩) (by show B + 1 < B + 2; omega) _, World.rowIs.congr (hr1.set 2 _) (tri_set x y z _), hr0.setOther (by show B ≠ B + 1; omega) _, hgr.set (by show _ ≤ B + 1; omega) _⟩
theorem made_end {wr : World} {base B N c0 : Nat} {a0 : Option Addr} {F : Nat → Int} (hown : wr.ownsRow (B + 2) 5 1 (.slice a0 N c0) N (cel .u8 N F)) (hN : 0 < N) (hF : ∀ i, 1 ≤ F i ∧ F i ≤ 255) (hb : base ≤ B) (x y z : Value) :
    ∃ g, a0 = some ⟨g, 0, none⟩ ∧ OwnB (((wr.setCell ⟨B, 0, none⟩ x).setCell ⟨B, 1, none⟩ y).setCell ⟨B, 2, none⟩ z) base g N c0 F := by
  obtain ⟨a, c, e, _, _, h⟩ := own_form hown
  simp only [Value.slice.injEq] at e
  obtain ⟨rfl, _, rfl⟩ := e
  rcases h with h | ⟨g, rfl, _⟩
  · omega
  refine ⟨g, rfl, own_mono (base := B + 2) ?_ (by omega), fun i _ => by have := hF i; omega⟩
  exact ownsRow_setCell_below (ownsRow_setCell_below (ownsRow_setCell_below hown (a := ⟨B, 0, none⟩) (by show B < B + 2; omega) x) (a := ⟨B, 1, none⟩) (by show B < B + 2; omega) y) (a := ⟨B, 2, none⟩) (by show B < B + 2; omega) z

def toldF (i : Nat) : Int := if i = 0 then 1 else if i = 1 then 255 else if i = 2 then 3 else 4
theorem told_sl (w : World) : Sl (w.alloc (.cells #[.int .u8 1, .int .u8 255, .int .u8 3, .int .u8 4] 5)) (some ⟨w.heap.size, 0, none⟩) 4 toldF := by
  refine ⟨fun i hi => ?_, .inr ⟨w.heap.size, 0, rfl, by simp only [World.size_alloc]; omega, fun i hi => ?_⟩⟩
  · rcases (by omega : i = 0 ∨ i = 1 ∨ i = 2 ∨ i = 3) with rfl | rfl | rfl | rfl <;> decide
  · rcases (by omega : i = 0 ∨ i = 1 ∨ i = 2 ∨ i = 3) with rfl | rfl | rfl | rfl <;> simp [go_sem, toldF]
theorem told_open {w : World} {base : Nat} {v : Value} (h : w.ownsRow base 3 1 v (openL 4 toldF).length (openV 4 toldF)) :
    ∃ g c, v = .slice (some ⟨g, 0, none⟩) 3 c ∧ g < w.heap.size ∧ w.cell? ⟨g, 1, none⟩ = some (.int .i64 2) := by
  rw [openV_cel] at h
  have e : openL 4 toldF = [0, 2, 3] := by decide
  have ef : openF 4 toldF 1 = 2 := by decide
  obtain ⟨a, c, rfl, _, _, hh⟩ := own_form h
  rw [e] at hh
  rcases hh with hh | ⟨g, rfl, _, hg, hc⟩
  · simp at hh
  · have := hc 1 (by simp)
    rw [ef] at this
    exact ⟨g, c, by rw [e]; rfl, hg, this⟩

/-- a tile of numbers may be -/
theorem made_may {x y : Int} {n N : Nat} {f : Nat → Int} (hf : ∀ i, i < n → 0 ≤ f i ∧ f i ≤ 255) (hN : (N : Int) = withinF x 1 16 * withinF y 1 16) : mayTB (withinF x 1 16) (withinF y 1 16) N (madeF n f) = true := by
  have xb := within_bd x 1 16 (by omega)
  have yb := within_bd y 1 16 (by omega)
  exact (mayTB_iff _ _ _ _).2 ⟨xb, yb, hN, fun i _ => by have := madeF_bd hf i; omega⟩

/-- what the edges tell of the four neighbours -/
theorem edges {W H l : Int} (hc : isCellB W H l = true) :
    decide (stepF W H l 0 < 0) = decide (l < W) ∧ decide (stepF W H l 1 < 0) = (l % W == W - 1) ∧ decide (stepF W H l 2 < 0) = decide (W * H - W ≤ l) ∧ decide (stepF W H l 3 < 0) = (l % W == 0) := by
  obtain ⟨e0, e1, e2, e3, _⟩ := step_lin hc
  obtain ⟨p1, p2, p3, p4, p5⟩ := place_bd hc
  obtain ⟨m, c0, c1⟩ := (isCellB_iff _ _ _).1 hc
  obtain ⟨m1, m2, m3, m4⟩ := (mayB_iff _ _).1 m
  have q0 := Int.mul_nonneg p3 (show 0 ≤ W by omega)
  have q1 : 1 ≤ l / W ↔ W ≤ l := by rw [Int.le_ediv_iff_mul_le (by omega), Int.one_mul]
  have q2 : H - 1 ≤ l / W ↔ W * H - W ≤ l := by rw [Int.le_ediv_iff_mul_le (by omega), Int.sub_mul, Int.one_mul, Int.mul_comm]
  refine ⟨?_, ?_, ?_, ?_⟩
  · rw [decide_eq_decide, e0]; split <;> omega
  · rw [Bool.eq_iff_iff, decide_eq_true_eq, beq_iff_eq, e1]; split <;> omega
  · rw [decide_eq_decide, e2]
    split
    · rename_i h
      have : ¬ H - 1 ≤ l / W := by omega
      rw [q2] at this
      omega
    · rename_i h
      have : H - 1 ≤ l / W := by omega
      rw [q2] at this
      omega
  · rw [Bool.eq_iff_iff, decide_eq_true_eq, beq_iff_eq, e3]; split <;> omega

theorem step_neg {W H l s : Int} (hc : isCellB W H l = true) (s0 : 0 ≤ s) (s3 : s ≤ 3) (h : stepF W H l s < 0) : stepF W H l s = -1 := by
  obtain ⟨e0, e1, e2, e3, _⟩ := step_lin hc
  obtain ⟨p1, p2, p3, p4, p5⟩ := place_bd hc
  obtain ⟨m, c0, c1⟩ := (isCellB_iff _ _ _).1 hc
  obtain ⟨m1, m2, m3, m4⟩ := (mayB_iff _ _).1 m
  have q0 := Int.mul_nonneg p3 (show 0 ≤ W by omega)
  have q1 : 1 ≤ l / W ↔ W ≤ l := by rw [Int.le_ediv_iff_mul_le (by omega), Int.one_mul]
  rcases (by omega : s = 0 ∨ s = 1 ∨ s = 2 ∨ s = 3) with rfl | rfl | rfl | rfl
  · rw [e0] at h ⊢; split at h <;> split <;> omega
  · rw [e1] at h ⊢; split at h <;> split <;> omega
  · rw [e2] at h ⊢; split at h <;> split <;> omega
  · rw [e3] at h ⊢; split at h <;> split <;> omega
theorem wrapI {x : Int} (h : -9223372036854775808 ≤ x ∧ x ≤ 9223372036854775807) : IntKind.i64.wrap x = x := by rw [IntKind.wrap_i64]; omega
theorem row4 (w : World) (x y z v : Value) (t : TypeId) (f : Nat → Value) (h0 : f 0 = x) (h1 : f 1 = y) (h2 : f 2 = z) (h3 : f 3 = v) : (w.alloc (.cells #[x, y, z, v] t)).rowIs w.heap.size t 4 f :=
  World.rowIs_alloc w #[x, y, z, v] t f (fun i hi => by
    have hi : i < 4 := hi
    rcases (by omega : i = 0 ∨ i = 1 ∨ i = 2 ∨ i = 3) with rfl | rfl | rfl | rfl
    · rw [h0]; rfl
    · rw [h1]; rfl
    · rw [h2]; rfl
    · rw [h3]; rfl)
theorem cell_gr {u u' : World} {b o : Nat} {v : Value} (h : u.cell? ⟨b, o, none⟩ = some v) (g : Gr u u') : u'.cell? ⟨b, o, none⟩ = some v :=
  (g.cell b o (World.block_lt_of_cell? u ⟨b, o, none⟩ h)).trans h

theorem tri_at (w : World) (W H : Int) (v : Value) : (w.alloc (.cells #[.int .i64 W, .int .i64 H, v] 83)).cell? ⟨w.heap.size, 0, none⟩ = some (.int .i64 W) ∧ (w.alloc (.cells #[.int .i64 W, .int .i64 H, v] 83)).cell? ⟨w.heap.size, 1, none⟩ = some (.int .i64 H) ∧ (w.alloc (.cells #[.int .i64 W, .int .i64 H, v] 83)).cell? ⟨w.heap.size, 2, none⟩ = some v :=
  ⟨(tri_alloc w _ _ _ _).cell (i := 0) (by omega), (tri_alloc w _ _ _ _).cell (i := 1) (by omega), (tri_alloc w _ _ _ _).cell (i := 2) (by omega)⟩

set_option maxHeartbeats 1000000 in
theorem ints_same (a b : Option Addr) (n c d : Nat) (f : Nat → Int) (w : World) (h : SlI w a n f) (k : SlI w b n f) (hn : n ≤ 1000000) :
    Calls Tryz.prog 18 #[.slice a n c, .slice b n d] w fun e w' => e = .returned (.bool true) ∧ Dr w w' := by
  go_enter Tryz.func18, Tryz.ntmps18
  go_wp2
  go_loopw [5] (fun i u => ∃ j : Nat, j ≤ n ∧ i = .int .i64 j ∧ Dr w u) (fun i _ => n - (intOf i).toNat)
  case atStart => exact ⟨0, Nat.zero_le _, rfl, Dr.refl _⟩
  case round =>
    obtain ⟨j, hj, rfl, q, rfl⟩ := hrel
    by_cases hlt : j < n
    · obtain ⟨b1, o1, rfl, _, hc1⟩ := h.at (by omega)
      obtain ⟨b2, o2, rfl, _, hc2⟩ := k.at (by omega)
      have e1 := hc1 j hlt
      have e2 := hc2 j hlt
      have j0 : (0 : Int) ≤ (j : Int) := by omega
      have j1 : (j : Int) < (n : Int) := by omega
      clear hc1 hc2
      generalize f j = z at *
      go_wp2_with fail
      go_quiet (fail)
      go_wp2
      go_roundw
      case rel => exact ⟨j + 1, by omega, by go_num, ⟨_, rfl⟩⟩
      case measure => simp [intOf]; omega
    · go_wp2
      go_ret
      exact ⟨rfl, ⟨_, rfl⟩⟩

/-- nothing that was there has turned, but for the blocks of S -/
structure Kp (S : Nat → Prop) (w w' : World) : Prop where
  os : w'.os = w.os
  tape : w'.tape = w.tape
  output : w'.output = w.output
  size : w.heap.size ≤ w'.heap.size
  block : ∀ k, k < w.heap.size → ¬ S k → w'.heap[k]? = w.heap[k]?
theorem Gr.kp {S : Nat → Prop} {w w' : World} (h : Gr w w') : Kp S w w' := ⟨Below.os h, Below.tape h, Below.output h, Below.size h, fun k hk _ => Below.block h k hk⟩
theorem Kp.refl (S : Nat → Prop) (w : World) : Kp S w w := (Gr.refl w).kp
theorem Kp.trans {S : Nat → Prop} {a b c : World} (h : Kp S a b) (k : Kp S b c) : Kp S a c :=
  ⟨k.os.trans h.os, k.tape.trans h.tape, k.output.trans h.output, Nat.le_trans h.size k.size, fun i hi hs => (k.block i (Nat.lt_of_lt_of_le hi h.size) hs).trans (h.block i hi hs)⟩
theorem Kp.mono {S T : Nat → Prop} {w w' : World} (h : Kp S w w') (hs : ∀ k, S k → T k) : Kp T w w' := ⟨h.os, h.tape, h.output, h.size, fun i hi hn => h.block i hi (fun q => hn (hs i q))⟩
theorem Kp.set {S : Nat → Prop} {a w : World} (h : Kp S a w) {p : Addr} (hp : S p.block ∨ a.heap.size ≤ p.block) (v : Value) : Kp S a (w.setCell p v) :=
  ⟨h.os, h.tape, h.output, by simpa [World.setCell] using h.size, fun i hi hs => (Below.heap_setCell w p v i (by rintro rfl; rcases hp with hp | hp; exact hs hp; omega)).trans (h.block i hi hs)⟩
theorem Kp.gr {S : Nat → Prop} {a w w' : World} (k : Kp S w w') (h : Gr a w) (hs : ∀ k, S k → a.heap.size ≤ k) : Gr a w' :=
  ⟨k.os.trans (Below.os h), k.tape.trans (Below.tape h), k.output.trans (Below.output h), Nat.le_trans h.size k.size, fun i hi => (k.block i (Nat.lt_of_lt_of_le hi h.size) (fun q => by have := hs i q; omega)).trans (Below.block h i hi)⟩
theorem Kp.cell {S : Nat → Prop} {w w' : World} (k : Kp S w w') {b o : Nat} {v : Value} (h : w.cell? ⟨b, o, none⟩ = some v) (hb : ¬ S b) : w'.cell? ⟨b, o, none⟩ = some v :=
  (World.cell?_of_block (w := w) (a := ⟨b, o, none⟩) (k.block b (World.block_lt_of_cell? w ⟨b, o, none⟩ h) hb)).trans h
theorem Kp.row {S : Nat → Prop} {w w' : World} (k : Kp S w w') {b t n : Nat} {f : Nat → Value} (h : w.rowIs b t n f) (hb : ¬ S b) : w'.rowIs b t n f := h.of_block (k.block b h.lt hb)
theorem Kp.sl {S : Nat → Prop} {w w' : World} (k : Kp S w w') {b o n : Nat} {f : Nat → Int} (h : Sl w (some ⟨b, o, none⟩) n f) (hb : ¬ S b) : Sl w' (some ⟨b, o, none⟩) n f := by
  refine ⟨h.byte, ?_⟩
  rcases h.has with h0 | ⟨b', o', e, hB, hc⟩
  · exact .inl h0
  · cases e
    exact .inr ⟨b, o, rfl, Nat.lt_of_lt_of_le hB k.size, fun i hi => k.cell (hc i hi) hb⟩
theorem Kp.dr {S : Nat → Prop} {a b c : World} (h : Kp S a b) (d : Dr b c) : Kp S a c := h.trans (d.gr.kp)
theorem Kp.grb {S : Nat → Prop} {a b c : World} (h : Kp S a b) (d : Gr b c) : Kp S a c := h.trans d.kp
theorem Gr.kpb {S : Nat → Prop} {a b c : World} (h : Gr a b) (d : Kp S b c) : Kp S a c := h.kp.trans d

open Go.RowKit Go.ChangeShapes

theorem add_add (a : Addr) (q j : Nat) : (a.add q).add j = a.add (q + j) := by
  unfold Addr.add
  by_cases hj : j = 0
  · subst hj; simp
  · by_cases hq : q = 0
    · subst hq; simp [hj]
    · simp [hj, hq, Nat.add_assoc]
/-- a field of one cell, of an element of a slice of structs that came in: its cell, and that it reads -/
theorem slice_cell {H : Type} {enc : TypeId × Value → H} {P : Program} {w : World} {base : Nat} {spare : Nat → Bool} {held : Bool} {t e : TypeId} {fs : Array Field} {fuel : Nat} {a : Addr} {len cap : Nat} {x : DataW H × List MemPlace}
    (ht : P.underlying t = some (.slice e)) (he : P.underlying e = some (.struct fs)) (h : DataW.trod enc P w base spare held fuel t [.slice (some a) len cap] = some x)
    {m i j : Nat} {f : Field} (hm : P.cellsOf e = m) (hi : i < len) (hf : fs[j]? = some f) (h1 : P.cellsOf f.type = 1) (ho : f.offset = j) (hj : j < m) :
    ∃ v y n, w.cell? (a.add (i * m + j)) = some v ∧ DataW.trod enc P w base spare held n f.type [v] = some y := by
  rcases DataW.trod_slice ht h with ⟨hcs, -⟩ | ⟨a', len', cap', elems, rest, n, -, hcs, -, -, -, -, hlen, hel, -, -⟩
  · simp at hcs
  · simp only [List.cons.injEq, Value.slice.injEq, Option.some.injEq, and_true] at hcs
    obtain ⟨rfl, rfl, rfl⟩ := hcs
    have hy := hel i hi
    rw [List.getElem?_eq_getElem (by omega), Option.bind_eq_some_iff] at hy
    obtain ⟨cs', hc, hr⟩ := hy
    obtain ⟨xs, n', -, -, hl, hxl, hfx⟩ := DataW.trod_struct he hr
    have hq := hfx j f hf
    have hjs : j < fs.size := (Array.getElem?_eq_some_iff.1 hf).1
    rw [List.getElem?_eq_getElem (by omega), h1, ho] at hq
    have hjl : j < cs'.length := by omega
    have hd : (cs'.drop j).take 1 = [cs'[j]] := by
      rw [List.drop_eq_getElem_cons hjl]
      rfl
    rw [hd] at hq
    have hcell := (World.cells?_some hc).2.2 j (by omega)
    refine ⟨cs'[j], _, n', ?_, hq⟩
    rw [hm] at hcell
    rw [add_add] at hcell
    rw [hcell]
    simp [hjl]

/-- A slice of structs of m integers that came in: nil, or its elements' fields by two numbers. -/
def IsSt (m : Nat) (w : World) (a : Option Addr) (len cap : Nat) (z : Nat → Nat → Int) : Prop :=
  (a = none ∧ len = 0 ∧ cap = 0) ∨ ∃ x, a = some x ∧ len ≤ cap ∧ cap ≤ maxLen ∧ ∀ i, i < len → ∀ q, q < m → w.cell? (x.add (i * m + q)) = some (.int .i64 (z i q)) ∧ (Lit.int .i64 (z i q)).wf = true
theorem isSt_mk {H : Type} {enc : TypeId × Value → H} {P : Program} {w : World} {base : Nat} {spare : Nat → Bool} {held : Bool} {t e : TypeId} {fuel : Nat} {a : Option Addr} {len cap m : Nat} {x : DataW H × List MemPlace}
    (ht : P.underlying t = some (.slice e)) (h : DataW.trod enc P w base spare held fuel t [.slice a len cap] = some x)
    (hc : ∀ y, a = some y → ∀ i, i < len → ∀ q, q < m → ∃ n, w.cell? (y.add (i * m + q)) = some (.int .i64 n) ∧ (Lit.int .i64 n).wf = true) : ∃ z, IsSt m w a len cap z := by
  rcases DataW.trod_slice ht h with ⟨hcs, -⟩ | ⟨a', len', cap', elems, rest, n, -, hcs, -, -, hl, hm, -, -, -, -⟩
  · simp only [List.cons.injEq, Value.slice.injEq, and_true] at hcs
    exact ⟨fun _ _ => 0, .inl hcs⟩
  · simp only [List.cons.injEq, Value.slice.injEq, and_true] at hcs
    obtain ⟨rfl, rfl, rfl⟩ := hcs
    have hc' := hc a' rfl
    refine ⟨fun i q => match w.cell? (a'.add (i * m + q)) with | some (.int _ n) => n | _ => 0, .inr ⟨a', rfl, hl, hm, fun i hi q hq => ?_⟩⟩
    obtain ⟨k, e1, e2⟩ := hc' i hi q hq
    simp only [e1]
    exact ⟨trivial, e2⟩
theorem IsSt.nil {m : Nat} {w : World} {a : Option Addr} {len cap : Nat} {z : Nat → Nat → Int} (h : IsSt m w a len cap z) : a = none → len = 0 ∧ cap = 0 := by
  rcases h with ⟨rfl, rfl, rfl⟩ | ⟨x, rfl, _⟩
  · intro _; exact ⟨rfl, rfl⟩
  · intro e; cases e
theorem IsSt.len {m : Nat} {w : World} {a : Option Addr} {len cap : Nat} {z : Nat → Nat → Int} (h : IsSt m w a len cap z) : len ≤ cap ∧ cap ≤ maxLen := by
  rcases h with ⟨rfl, rfl, rfl⟩ | ⟨x, rfl, h1, h2, _⟩
  · exact ⟨Nat.le_refl _, Nat.zero_le _⟩
  · exact ⟨h1, h2⟩
theorem IsSt.has {m : Nat} {w : World} {a : Option Addr} {len cap : Nat} {z : Nat → Nat → Int} (h : IsSt m w a len cap z) (hm : 0 < m) : len = 0 ∨ ∃ b o, a = some ⟨b, o, none⟩ ∧ b < w.heap.size ∧ ∀ i, i < len → ∀ q, q < m → w.cell? ⟨b, o + i * m + q, none⟩ = some (.int .i64 (z i q)) ∧ (Lit.int .i64 (z i q)).wf = true := by
  rcases h with ⟨rfl, rfl, rfl⟩ | ⟨x, rfl, h1, h2, h3⟩
  · exact .inl rfl
  · by_cases h0 : len = 0
    · exact .inl h0
    · obtain ⟨b, off, spot⟩ := x
      have h00 := (h3 0 (by omega) 0 hm).1
      have hspot : spot = none := by simpa [Addr.add] using World.cell?_spot h00
      subst hspot
      have hadd : ∀ j, (Addr.add ⟨b, off, none⟩ j) = ⟨b, off + j, none⟩ := fun j => Go.WideShapes.add_plain b off j
      refine .inr ⟨b, off, rfl, ?_, fun i hi q hq => ?_⟩
      · rw [hadd] at h00
        exact World.block_lt_of_cell? w _ h00
      · have := h3 i hi q hq
        rw [hadd, ← Nat.add_assoc] at this
        exact this

theorem IsRow.sli {w : World} {a : Option Addr} {len cap : Nat} {zs : List Int} (h : IsRow .i64 w a len cap zs) : SlI w a len (byF zs) := by
  rcases h with ⟨rfl, rfl, rfl, rfl⟩ | ⟨x, rfl, hl, hm, hz, hc, hw⟩
  · exact .inl rfl
  · by_cases h0 : len = 0
    · exact .inl h0
    · obtain ⟨b, o, rfl, hc'⟩ := ints_at hc (by omega)
      refine .inr ⟨b, o, rfl, ?_, fun i hi => hc' i (by omega)⟩
      exact World.block_lt_of_cell? w ⟨b, o + 0, none⟩ (hc' 0 (by omega))

end Go.Proofs.YtgbadbkipaccgaaGreat
