/- What the document's own full, MayTile, Near, Bytes, SameTile, Ints, Cost, OwnTile answer, of tiles in memory: the same plain functions; nothing that was there is written. -/
import Derived.Test.YtmejpildmapfiaaTWalks2
import Derived.Laws.AppendOwnNone
namespace Go.Proofs.Ytmejpildmapfiaa
open Go.RowKit

set_option maxHeartbeats 1000000 in
theorem full_any (a : Option Addr) (n cap : Nat) (f : Nat → Int) (w : World) (h : Sl w a n f) (hn : n ≤ maxLen) :
    Calls Try.prog 43 #[.slice a n cap] w fun e w' => e = .returned (.bool (fullB n f)) ∧ w' = w := by
  unfold maxLen at hn
  go_enter Try.func43, Try.ntmps43
  go_wp2
  go_loop [3] (fun i => ∃ k : Nat, k ≤ n ∧ i = .int .i64 k ∧ ∀ j, j < k → f j ≠ 0) (fun i => n - (intOf i).toNat)
  case atStart => exact ⟨0, Nat.zero_le _, rfl, fun j hj => absurd hj (Nat.not_lt_zero _)⟩
  case round =>
    obtain ⟨k, hk, rfl, hall⟩ := hrel
    have HA := hide hall
    clear hall
    by_cases hlt : k < n
    · obtain ⟨b, o, rfl, hB, hc⟩ := h.at (by omega)
      have hck := hc k hlt
      have hb := h.byte k hlt
      clear hc
      by_cases h0 : f k = 0
      · have E : Hid (fullB n f = false) := hide ((fullB_false n f).2 ⟨k, hlt, h0⟩)
        have h0' : (f k == 0) = true := by simp [h0]
        clear h0
        go_wp2
        go_ret
        exact ⟨ret_bool (by rw [E.out]), rfl⟩
      · have h0' : (f k == 0) = false := by simp [h0]
        have H0 := hide h0
        clear h0
        go_wp2
        go_round
        case rel =>
          refine ⟨k + 1, by omega, by go_num, fun j hj => ?_⟩
          by_cases e : j = k
          · rw [e]; exact H0.out
          · exact HA.out j (by omega)
        case measure => simp [intOf]; omega
    · have E : Hid (fullB n f = true) := hide ((fullB_iff n f).2 fun i hi => HA.out i (by omega))
      go_wp2
      go_ret
      exact ⟨ret_bool (by rw [E.out]), rfl⟩

set_option maxHeartbeats 1000000 in
theorem rbytes_any (a b : Option Addr) (n c m d : Nat) (f g : Nat → Int) (w : World) (h : Sl w a n f) (k : Sl w b m g) :
    Calls Try.prog 40 #[.slice a n c, .slice b m d] w fun e w' => e = .returned (.bool (sameB n f m g)) ∧ w' = w := by
  have h1 := run_conv h c
  have h2 := run_conv k d
  go_enter Try.func40, Try.ntmps40
  go_wp2
  go_ret
  exact ⟨ret_bool (strF_dec h.byte k.byte), rfl⟩

set_option maxHeartbeats 1000000 in
theorem rsameT_any (W H W' H' : Int) (a b : Option Addr) (n c m d : Nat) (f g : Nat → Int) (w : World) (h : Sl w a n f) (k : Sl w b m g) :
    Calls Try.prog 19 #[.agg #[.int .i64 W, .int .i64 H, .slice a n c], .agg #[.int .i64 W', .int .i64 H', .slice b m d]] w fun e w' => e = .returned (.bool (sameTB W H n f W' H' m g)) ∧ Gr w w' := by
  by_cases h1 : W = W'
  · have t1 : (W == W') = true := by simp [h1]
    by_cases h2 : H = H'
    · have t2 : (H == H') = true := by simp [h2]
      have H1 := hide h1
      have H2 := hide h2
      clear h1 h2
      go_enter Try.func19, Try.ntmps19
      go_wp2_with (go_at_call 40; refine (rbytes_any _ _ _ _ _ _ f g _ (h.gr (by repeat (first | exact Gr.refl _ | assumption | exact Dr.gr (by assumption) | refine Gr.alloc ?_ _ | refine Gr.drewN ?_ _ | refine Gr.drew ?_ | refine Gr.trans ?_ (by assumption) | refine Gr.trans ?_ (Dr.gr (by assumption))))) (k.gr (by repeat (first | exact Gr.refl _ | assumption | exact Dr.gr (by assumption) | refine Gr.alloc ?_ _ | refine Gr.drewN ?_ _ | refine Gr.drew ?_ | refine Gr.trans ?_ (by assumption) | refine Gr.trans ?_ (Dr.gr (by assumption)))))).mono ?_; rintro e w' ⟨rfl, rfl⟩)
      go_ret
      exact ⟨ret_bool (by simp [sameTB, H1.out, H2.out]), (by repeat (first | exact Gr.refl _ | assumption | exact Dr.gr (by assumption) | refine Gr.alloc ?_ _ | refine Gr.drewN ?_ _ | refine Gr.drew ?_ | refine Gr.trans ?_ (by assumption) | refine Gr.trans ?_ (Dr.gr (by assumption))))⟩
    · have t2 : (H == H') = false := by simp [h2]
      have H1 := hide h1
      have H2 := hide h2
      clear h1 h2
      go_enter Try.func19, Try.ntmps19
      go_wp2
      go_ret
      exact ⟨ret_bool (by simp [sameTB, H2.out]), (by repeat (first | exact Gr.refl _ | assumption | exact Dr.gr (by assumption) | refine Gr.alloc ?_ _ | refine Gr.drewN ?_ _ | refine Gr.drew ?_ | refine Gr.trans ?_ (by assumption) | refine Gr.trans ?_ (Dr.gr (by assumption))))⟩
  · have t1 : (W == W') = false := by simp [h1]
    have H1 := hide h1
    clear h1
    go_enter Try.func19, Try.ntmps19
    go_wp2
    go_ret
    exact ⟨ret_bool (by simp [sameTB, H1.out]), (by repeat (first | exact Gr.refl _ | assumption | exact Dr.gr (by assumption) | refine Gr.alloc ?_ _ | refine Gr.drewN ?_ _ | refine Gr.drew ?_ | refine Gr.trans ?_ (by assumption) | refine Gr.trans ?_ (Dr.gr (by assumption))))⟩

/-- the cost that a number makes -/
def costF (x : Int) : Int := if x % 8 = 7 then 255 else if x < 160 then 1 + x % 4 else x
theorem costF_bd {x : Int} (h : 0 ≤ x ∧ x ≤ 255) : 1 ≤ costF x ∧ costF x ≤ 255 := by
  unfold costF
  split
  · omega
  · split <;> omega

set_option maxHeartbeats 1000000 in
theorem cost_any (x : Int) (w : World) (h : 0 ≤ x ∧ x ≤ 255) :
    Calls Try.prog 29 #[.int .u8 x] w fun e w' => e = .returned (.int .u8 (costF x)) ∧ w' = w := by
  obtain ⟨x0, x1⟩ := h
  by_cases h7 : x % 8 = 7
  · have h7' : (x % 8 == 7) = true := by simp [h7]
    have E : Hid (costF x = 255) := hide (by simp [costF, h7])
    clear h7
    go_enter Try.func29, Try.ntmps29
    go_wp2
    go_ret
    exact ⟨ret_int (by rw [E.out]), rfl⟩
  · have h7' : (x % 8 == 7) = false := by simp [h7]
    by_cases h1 : x < 160
    · have E : Hid (costF x = 1 + x % 4) := hide (by simp [costF, h7, h1])
      have b0 : 0 ≤ x % 4 ∧ x % 4 < 4 := by omega
      clear h7
      go_enter Try.func29, Try.ntmps29
      go_wp2
      go_ret
      exact ⟨ret_int (by rw [E.out]), rfl⟩
    · have E : Hid (costF x = x) := hide (by simp [costF, h7, h1])
      clear h7
      go_enter Try.func29, Try.ntmps29
      go_wp2
      go_ret
      exact ⟨ret_int (by rw [E.out]), rfl⟩

end Go.Proofs.Ytmejpildmapfiaa
