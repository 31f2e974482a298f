/- What the document's own full, MayTile, Near, Bytes, SameTile, Ints, Cost, OwnTile answer, of tiles in memory: the same plain functions; nothing that was there is written. -/
import Derived.Test.YtigoehoaplndiaaTWalks2
import Derived.Laws.AppendOwnNone
namespace Go.Proofs.Ytigoehoaplndiaa
open Go.RowKit

set_option maxHeartbeats 1000000 in
theorem full_any (a : Option Addr) (n cap : Nat) (f : Nat → Int) (w : World) (h : Sl w a n f) (hn : n ≤ maxLen) :
    Calls Try.prog 47 #[.slice a n cap] w fun e w' => e = .returned (.bool (fullB n f)) ∧ w' = w := by
  unfold maxLen at hn
  go_enter Try.func47, Try.ntmps47
  go_wp2
  go_loop [3] (fun i => ∃ k : Nat, k ≤ n ∧ i = .int .i64 k ∧ ∀ j, j < k → f j ≠ 0) (fun i => n - (intOf i).toNat)
  case atStart => exact ⟨0, Nat.zero_le _, rfl, fun j hj => absurd hj (Nat.not_lt_zero _)⟩
  case round =>
    obtain ⟨k, hk, rfl, hall⟩ := hrel
    have HA := hide hall
    clear hall
    by_cases hlt : k < n
    · obtain ⟨b, o, rfl, hB, hc⟩ := h.at (by omega)
      have hck := hc k hlt
      have hb := h.byte k hlt
      clear hc
      by_cases h0 : f k = 0
      · have E : Hid (fullB n f = false) := hide ((fullB_false n f).2 ⟨k, hlt, h0⟩)
        have h0' : (f k == 0) = true := by simp [h0]
        clear h0
        go_wp2
        go_ret
        exact ⟨ret_bool (by rw [E.out]), rfl⟩
      · have h0' : (f k == 0) = false := by simp [h0]
        have H0 := hide h0
        clear h0
        go_wp2
        go_round
        case rel =>
          refine ⟨k + 1, by omega, by go_num, fun j hj => ?_⟩
          by_cases e : j = k
          · rw [e]; exact H0.out
          · exact HA.out j (by omega)
        case measure => simp [intOf]; omega
    · have E : Hid (fullB n f = true) := hide ((fullB_iff n f).2 fun i hi => HA.out i (by omega))
      go_wp2
      go_ret
      exact ⟨ret_bool (by rw [E.out]), rfl⟩

set_option maxHeartbeats 1000000 in
theorem rmayT_any (W H : Int) (a : Option Addr) (n cap : Nat) (f : Nat → Int) (w : World) (h : Sl w a n f) :
    Calls Try.prog 29 #[.agg #[.int .i64 W, .int .i64 H, .slice a n cap]] w fun e w' => e = .returned (.bool (mayTB W H n f)) ∧ Gr w w' := by
  cases hW : fitsB W
  · have h1 : W < 1 ∨ 16 < W := by have := (fitsB_false W).1 hW; omega
    go_enter Try.func29, Try.ntmps29
    go_wp2_with (go_at_call 30; (first | refine (in_yes _ _ _ _ (by omega) (by omega)).mono ?_ | refine (in_no _ _ _ _ (by omega)).mono ?_); rintro e w' ⟨rfl, q, rfl⟩)
    go_ret
    exact ⟨ret_bool (by simp [mayTB, hW]), (by repeat (first | exact Gr.refl _ | assumption | exact Dr.gr (by assumption) | refine Gr.alloc ?_ _ | refine Gr.drewN ?_ _ | refine Gr.drew ?_ | refine Gr.trans ?_ (by assumption) | refine Gr.trans ?_ (Dr.gr (by assumption))))⟩
  have w1 := (fitsB_iff W).1 hW
  cases hH : fitsB H
  · have h1 : H < 1 ∨ 16 < H := by have := (fitsB_false H).1 hH; omega
    go_enter Try.func29, Try.ntmps29
    go_wp2_with (go_at_call 30; (first | refine (in_yes _ _ _ _ (by omega) (by omega)).mono ?_ | refine (in_no _ _ _ _ (by omega)).mono ?_); rintro e w' ⟨rfl, q, rfl⟩)
    go_ret
    exact ⟨ret_bool (by simp [mayTB, hW, hH]), (by repeat (first | exact Gr.refl _ | assumption | exact Dr.gr (by assumption) | refine Gr.alloc ?_ _ | refine Gr.drewN ?_ _ | refine Gr.drew ?_ | refine Gr.trans ?_ (by assumption) | refine Gr.trans ?_ (Dr.gr (by assumption))))⟩
  have w2 := (fitsB_iff H).1 hH
  have m := mul_bd (w := W) (h := H) (W := 16) (H := 16) (by omega) (by omega) (by omega) (by omega)
  by_cases hn : (n : Int) = W * H
  · have hn2 : n ≤ maxLen := by unfold maxLen; omega
    have HN := hide hn
    have hn' : ((n : Int) != W * H) = false := by simp [hn]
    clear hn
    go_enter Try.func29, Try.ntmps29
    go_wp2_with (first | (go_at_call 30; (first | refine (in_yes _ _ _ _ (by omega) (by omega)).mono ?_ | refine (in_no _ _ _ _ (by omega)).mono ?_); rintro e w' ⟨rfl, q, rfl⟩) | (go_at_call 47; refine (full_any _ _ _ f _ (h.gr (by repeat (first | exact Gr.refl _ | assumption | exact Dr.gr (by assumption) | refine Gr.alloc ?_ _ | refine Gr.drewN ?_ _ | refine Gr.drew ?_ | refine Gr.trans ?_ (by assumption) | refine Gr.trans ?_ (Dr.gr (by assumption))))) hn2).mono ?_; rintro e w' ⟨rfl, rfl⟩))
    go_ret
    exact ⟨ret_bool (by simp only [mayTB, hW, hH, HN.out, decide_true, Bool.true_and]), (by repeat (first | exact Gr.refl _ | assumption | exact Dr.gr (by assumption) | refine Gr.alloc ?_ _ | refine Gr.drewN ?_ _ | refine Gr.drew ?_ | refine Gr.trans ?_ (by assumption) | refine Gr.trans ?_ (Dr.gr (by assumption))))⟩
  · have hn' : ((n : Int) != W * H) = true := by simp [hn]
    go_enter Try.func29, Try.ntmps29
    go_wp2_with (go_at_call 30; (first | refine (in_yes _ _ _ _ (by omega) (by omega)).mono ?_ | refine (in_no _ _ _ _ (by omega)).mono ?_); rintro e w' ⟨rfl, q, rfl⟩)
    go_ret
    exact ⟨ret_bool (by simp [mayTB, hW, hH, hn]), (by repeat (first | exact Gr.refl _ | assumption | exact Dr.gr (by assumption) | refine Gr.alloc ?_ _ | refine Gr.drewN ?_ _ | refine Gr.drew ?_ | refine Gr.trans ?_ (by assumption) | refine Gr.trans ?_ (Dr.gr (by assumption))))⟩

set_option maxHeartbeats 1000000 in
theorem rnear_any (W H : Int) (a : Option Addr) (n cap : Nat) (f : Nat → Int) (l s : Int) (w : World) (h : Sl w a n f) :
    Calls Try.prog 18 #[.agg #[.int .i64 W, .int .i64 H, .slice a n cap], .int .i64 l, .int .i64 s] w fun e w' => e = .returned (.int .i64 (nearF W H n f l s)) ∧ Gr w w' := by
  cases hm : mayTB W H n f
  · go_enter Try.func18, Try.ntmps18
    go_wp2_with (go_at_call 29; refine (rmayT_any _ _ _ _ _ f _ (h.gr (by repeat (first | exact Gr.refl _ | assumption | exact Dr.gr (by assumption) | refine Gr.alloc ?_ _ | refine Gr.drewN ?_ _ | refine Gr.drew ?_ | refine Gr.trans ?_ (by assumption) | refine Gr.trans ?_ (Dr.gr (by assumption)))))).mono ?_; rintro e w' ⟨rfl, hg⟩; rw [hm]; obtain ⟨ho, hf, hs⟩ := hg.old)
    go_ret
    exact ⟨ret_int (by simp [nearF, isLocB, hm]), (by repeat (first | exact Gr.refl _ | assumption | exact Dr.gr (by assumption) | refine Gr.alloc ?_ _ | refine Gr.drewN ?_ _ | refine Gr.drew ?_ | refine Gr.trans ?_ (by assumption) | refine Gr.trans ?_ (Dr.gr (by assumption))))⟩
  · obtain ⟨n1, n2, _, _⟩ := mayTB_n hm
    by_cases hl : 0 ≤ l ∧ l < n
    · obtain ⟨l1, l2⟩ := hl
      have E : Hid (nearF W H n f l s = stepF W H l s) := hide (by simp [nearF, isLocB, hm, l1, l2])
      go_enter Try.func18, Try.ntmps18
      go_wp2_with (first | (go_at_call 29; refine (rmayT_any _ _ _ _ _ f _ (h.gr (by repeat (first | exact Gr.refl _ | assumption | exact Dr.gr (by assumption) | refine Gr.alloc ?_ _ | refine Gr.drewN ?_ _ | refine Gr.drew ?_ | refine Gr.trans ?_ (by assumption) | refine Gr.trans ?_ (Dr.gr (by assumption)))))).mono ?_; rintro e w' ⟨rfl, hg⟩; rw [hm]; obtain ⟨ho, hf, hs⟩ := hg.old) | (go_at_call 30; (first | refine (in_yes _ _ _ _ (by omega) (by omega)).mono ?_ | refine (in_no _ _ _ _ (by omega)).mono ?_); rintro e w' ⟨rfl, q, rfl⟩) | (go_at_call 21; refine (rstep_any _ _ _ _ _).mono ?_; rintro e w' ⟨rfl, hd⟩))
      go_ret
      exact ⟨ret_int (by rw [E.out]), (by repeat (first | exact Gr.refl _ | assumption | exact Dr.gr (by assumption) | refine Gr.alloc ?_ _ | refine Gr.drewN ?_ _ | refine Gr.drew ?_ | refine Gr.trans ?_ (by assumption) | refine Gr.trans ?_ (Dr.gr (by assumption))))⟩
    · have hl' : l < 0 ∨ (n : Int) ≤ l := by omega
      clear hl
      go_enter Try.func18, Try.ntmps18
      go_wp2_with (first | (go_at_call 29; refine (rmayT_any _ _ _ _ _ f _ (h.gr (by repeat (first | exact Gr.refl _ | assumption | exact Dr.gr (by assumption) | refine Gr.alloc ?_ _ | refine Gr.drewN ?_ _ | refine Gr.drew ?_ | refine Gr.trans ?_ (by assumption) | refine Gr.trans ?_ (Dr.gr (by assumption)))))).mono ?_; rintro e w' ⟨rfl, hg⟩; rw [hm]; obtain ⟨ho, hf, hs⟩ := hg.old) | (go_at_call 30; (first | refine (in_yes _ _ _ _ (by omega) (by omega)).mono ?_ | refine (in_no _ _ _ _ (by omega)).mono ?_); rintro e w' ⟨rfl, q, rfl⟩))
      go_ret
      exact ⟨ret_int (by simp only [nearF, isLocB, hm, Bool.true_and, decide_eq_true_eq]; rw [if_neg (by omega)]), (by repeat (first | exact Gr.refl _ | assumption | exact Dr.gr (by assumption) | refine Gr.alloc ?_ _ | refine Gr.drewN ?_ _ | refine Gr.drew ?_ | refine Gr.trans ?_ (by assumption) | refine Gr.trans ?_ (Dr.gr (by assumption))))⟩

/-- the cost that a number makes -/
def costF (x : Int) : Int := if x % 8 = 7 then 255 else if x < 160 then 1 + x % 4 else x
theorem costF_bd {x : Int} (h : 0 ≤ x ∧ x ≤ 255) : 1 ≤ costF x ∧ costF x ≤ 255 := by
  unfold costF
  split
  · omega
  · split <;> omega

set_option maxHeartbeats 1000000 in
theorem cost_any (x : Int) (w : World) (h : 0 ≤ x ∧ x ≤ 255) :
    Calls Try.prog 20 #[.int .u8 x] w fun e w' => e = .returned (.int .u8 (costF x)) ∧ w' = w := by
  obtain ⟨x0, x1⟩ := h
  by_cases h7 : x % 8 = 7
  · have h7' : (x % 8 == 7) = true := by simp [h7]
    have E : Hid (costF x = 255) := hide (by simp [costF, h7])
    clear h7
    go_enter Try.func20, Try.ntmps20
    go_wp2
    go_ret
    exact ⟨ret_int (by rw [E.out]), rfl⟩
  · have h7' : (x % 8 == 7) = false := by simp [h7]
    by_cases h1 : x < 160
    · have E : Hid (costF x = 1 + x % 4) := hide (by simp [costF, h7, h1])
      have b0 : 0 ≤ x % 4 ∧ x % 4 < 4 := by omega
      clear h7
      go_enter Try.func20, Try.ntmps20
      go_wp2
      go_ret
      exact ⟨ret_int (by rw [E.out]), rfl⟩
    · have E : Hid (costF x = x) := hide (by simp [costF, h7, h1])
      clear h7
      go_enter Try.func20, Try.ntmps20
      go_wp2
      go_ret
      exact ⟨ret_int (by rw [E.out]), rfl⟩

end Go.Proofs.Ytigoehoaplndiaa
