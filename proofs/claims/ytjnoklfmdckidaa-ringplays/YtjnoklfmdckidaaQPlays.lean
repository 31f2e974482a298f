/- RingPlays answers true at every input; nothing that was there is written. -/
import Derived.Test.YtjnoklfmdckidaaQPl
import Derived.Test.YtjnoklfmdckidaaTRow2
import Derived.Deep.CutRange
import Derived.Deep.RegionWith
namespace Go.Proofs.Ytjnoklfmdckidaa
open Go.RowKit
set_option maxRecDepth 20000

theorem pl_start {w w1 : World} {f : Int} (hr : Rg w1 w.heap.size (fun k => k = w.heap.size) f []) (hs : w1.heap.size = w.heap.size + 1) (hg : Gr w w1) :
    Pl w (w1.alloc (.cells #[.int .i64 f, .slice none 0 0] 30)) w.heap.size w1.heap.size f [] f [] (fun _ => False) := by
  have k : Gr w1 (w1.alloc (.cells #[.int .i64 f, .slice none 0 0] 30)) := (Gr.refl w1).alloc _
  have hrow : (w1.alloc (.cells #[.int .i64 f, .slice none 0 0] 30)).rowIs w1.heap.size 30 2 (pr (.int .i64 f) (.slice none 0 0)) := World.rowIs_alloc w1 #[.int .i64 f, .slice none 0 0] _ _ (fun i hi => by have hi : i < 2 := hi; rcases (by omega : i = 0 ∨ i = 1) with rfl | rfl <;> rfl)
  exact ⟨⟨_, none, hr.gr k, ⟨fun b e => (by cases e), _, hrow, .inl ⟨rfl, rfl, rfl⟩⟩, by omega, fun t e => (by cases e), fun t ht => ⟨by rw [ht]; exact Nat.le_refl _, fun e => e⟩, by omega, fun e => e⟩, fun t e => e.elim, hg.trans k⟩
theorem keepP {u v : World} {PB : Nat → Prop} {B : Nat} {x y z : Value} (h : u.cell? ⟨B, 0, none⟩ = some x ∧ u.cell? ⟨B, 1, none⟩ = some y ∧ u.cell? ⟨B, 2, none⟩ = some z) (k : Kp (fun t => ¬ PB t) u v) (hB : PB B) : v.cell? ⟨B, 0, none⟩ = some x ∧ v.cell? ⟨B, 1, none⟩ = some y ∧ v.cell? ⟨B, 2, none⟩ = some z :=
  ⟨k.cell h.1 (fun e => e hB), k.cell h.2.1 (fun e => e hB), k.cell h.2.2 (fun e => e hB)⟩
theorem wf_i64 {n : Int} (h : (Lit.int .i64 n).wf = true) : n ≤ 9223372036854775807 := by
  have := h
  simp [Lit.wf] at this
  omega

set_option maxHeartbeats 8000000 in
theorem plays_raw (f : Int) (al : Option Addr) (n cap : Nat) (z : Nat → Nat → Int) (w : World) (h : IsSt 3 w al n cap z) (hn : n ≤ maxLen) (f0 : 0 ≤ f) (f1 : f ≤ 1099511627776) :
    Calls Try.prog 3 #[.int .i64 f, .slice al n cap, .bool true] w fun e w' => e = .returned (.bool true) ∧ Gr w w' := by
  unfold maxLen at hn
  go_enter Try.func3, Try.ntmps3
  go_wp2_with fail
  refine (qnew_yes f w (by omega) (by omega)).mono ?_
  rintro e w1 ⟨rfl, hr, hs, hg⟩
  have HPL := hide (pl_start hr hs hg)
  clear hr hs hg
  obtain ⟨p, hp⟩ : ∃ p, p = w.heap.size := ⟨_, rfl⟩
  rw [← hp] at HPL ⊢
  clear hp
  go_wp2_with fail
  obtain ⟨q, hq⟩ : ∃ q, q = w1.heap.size := ⟨_, rfl⟩
  rw [← hq] at HPL ⊢
  clear hq
  go_loopw [9] (fun i u => ∃ (k : Nat) (a : Int) (L : List (Int × Int)), (k ≤ 60 ∧ k ≤ n) ∧ i = .int .i64 k ∧ (0 ≤ a ∧ a ≤ 1099511627776 + 255 * k) ∧ L.length ≤ k ∧ Pl w u p q a L a L (fun _ => False)) (fun i _ => 60 - (intOf i).toNat)
  case atStart => exact ⟨0, f, [], ⟨by omega, by omega⟩, rfl, ⟨by omega, by omega⟩, Nat.le_refl _, HPL.out⟩
  case round =>
    clear HPL
    obtain ⟨k, a, L, ⟨hk1, hk2⟩, rfl, ⟨ha0, ha1⟩, hL, hP⟩ := hrel
    by_cases hdone : ¬ k < n
    · have t1 : ¬ (k : Int) < (n : Int) := by omega
      go_wp2_with fail
      refine (told7_any _).mono ?_
      rintro e w9 ⟨rfl, hg9⟩
      go_wp2_with fail
      go_ret
      exact ⟨rfl, hP.g.trans hg9⟩
    have t1 : (k : Int) < (n : Int) := by omega
    by_cases hdone2 : ¬ k < 60
    · have t2 : ¬ (k : Int) < 60 := by omega
      go_wp2_with fail
      refine (told7_any _).mono ?_
      rintro e w9 ⟨rfl, hg9⟩
      go_wp2_with fail
      go_ret
      exact ⟨rfl, hP.g.trans hg9⟩
    have t2 : (k : Int) < 60 := by omega
    have hkl : k < n := by omega
    have hk60 : k < 60 := by omega
    clear hdone hdone2
    obtain ⟨b, o, rfl, hB, hcell⟩ := (h.has (by omega)).resolve_left (by omega)
    have l0 := cell_gr (hcell k hkl 0 (by omega)).1 hP.g
    have l1 := cell_gr (hcell k hkl 1 (by omega)).1 hP.g
    have l2 := cell_gr (hcell k hkl 2 (by omega)).1 hP.g
    have hyw := wf_i64 (hcell k hkl 1 (by omega)).2
    rw [Nat.add_zero] at l0
    generalize z k 0 = X at *
    generalize z k 1 = Y at *
    generalize z k 2 = Z at *
    clear hcell
    have xb := within_bd X 0 3 (by omega)
    go_upto_region 15 with fail
    have hPb := hP.box (.cells #[.int .i64 X, .int .i64 Y, .int .i64 Z] 32)
    have hrow := tri_alloc wr (.int .i64 X) (.int .i64 Y) (.int .i64 Z) 32
    have hBw : w.heap.size ≤ wr.heap.size := Below.size hP.g
    obtain ⟨U, hU⟩ : ∃ U, U = wr.alloc (.cells #[.int .i64 X, .int .i64 Y, .int .i64 Z] 32) := ⟨_, rfl⟩
    rw [← hU] at hPb hrow ⊢
    generalize wr.heap.size = B at *
    clear hU hP l0 l1 l2
    have hP := hPb
    clear hPb
    have hkb : Y ≤ 9223372036854775807 := hyw
    have d0 : U.cell? ⟨B, 0, none⟩ = some (.int .i64 X) := hrow.cell (i := 0) (by omega)
    have d1 : U.cell? ⟨B, 1, none⟩ = some (.int .i64 Y) := hrow.cell (i := 1) (by omega)
    have d2 : U.cell? ⟨B, 2, none⟩ = some (.int .i64 Z) := hrow.cell (i := 2) (by omega)
    have hS0 : U.cell? ⟨B, 0, none⟩ = some (.int .i64 X) ∧ U.cell? ⟨B, 1, none⟩ = some (.int .i64 Y) ∧ U.cell? ⟨B, 2, none⟩ = some (.int .i64 Z) := ⟨d0, d1, d2⟩
    clear hrow
    go_wp2_with fail
    refine (within_st _ _ _ _ (by omega) (by omega) (by omega)).mono ?_
    rintro e U ⟨rfl, rfl⟩
    obtain ⟨kk, hkk⟩ : ∃ kk, kk = withinF X 0 3 := ⟨_, rfl⟩
    rw [← hkk] at xb ⊢
    clear hkk
    rcases (by omega : kk = 0 ∨ kk = 1 ∨ kk = 2 ∨ kk = 3) with rfl | rfl | rfl | rfl
    · -- Put
      have HL1 := putL_len a L Y Z
      go_wp2_with fail
      go_region_held3 (fun z => z.cell? ⟨B, 0, none⟩ = some (.int .i64 X) ∧ z.cell? ⟨B, 1, none⟩ = some (.int .i64 Y) ∧ z.cell? ⟨B, 2, none⟩ = some (.int .i64 Z)) (first | exact hS0 | exact keepP hS hk2 rfl | exact keepP hS hk3 rfl) (first | (go_at_call 11; have hS := ‹World.cell? _ ⟨B, 0, none⟩ = _ ∧ World.cell? _ ⟨B, 1, none⟩ = _ ∧ World.cell? _ ⟨B, 2, none⟩ = _›; refine (lput (hP.gr (by repeat (first | exact Gr.refl _ | assumption | exact Dr.gr (by assumption) | refine Gr.alloc ?_ _ | refine Gr.drewN ?_ _ | refine Gr.drew ?_ | refine Gr.trans ?_ (by assumption) | refine Gr.trans ?_ (Dr.gr (by assumption))))) Y Z (by omega) (by omega) hkb).mono ?_; rintro e v1 ⟨rfl, hP2, hk2⟩) | (go_at_call 12; have hS := ‹World.cell? _ ⟨B, 0, none⟩ = _ ∧ World.cell? _ ⟨B, 1, none⟩ = _ ∧ World.cell? _ ⟨B, 2, none⟩ = _›; refine (rput (hP2.gr (by repeat (first | exact Gr.refl _ | assumption | exact Dr.gr (by assumption) | refine Gr.alloc ?_ _ | refine Gr.drewN ?_ _ | refine Gr.drew ?_ | refine Gr.trans ?_ (by assumption) | refine Gr.trans ?_ (Dr.gr (by assumption))))) Y Z (by omega) (by omega) (by omega) hkb).mono ?_; rintro e v2 ⟨rfl, hP3, hk3⟩))
      clear hP hP2 hk2 hk3 d1 d2 d0 hS0
      have hP := hP3
      clear hP3
      generalize putL a L Y Z = L1 at *
      generalize inK a Y = tb at *
      have hP0 := hP.mono (PC := fun _ => False) (fun t e => e.elim)
      obtain ⟨q0, ⟨yl, yc, q1⟩, -⟩ := hP0.cell
      have HA := hide (fun v (hv : Dr v2 v) => lat (hP0.gr hv.gr))
      have HL := hide (fun v (hv : Dr v2 v) => llen (hP0.gr hv.gr))
      have HP0 := hide hP0
      clear hP hP0
      go_wp2_with fail
      go_quiet (first | (go_at_call 17; refine Calls.quiet_of_same (HA.out _ ⟨_, rfl⟩)) | (go_at_call 18; refine Calls.quiet_of_same (HL.out _ ⟨_, rfl⟩)))
      go_wp2
      go_roundw
      case rel => exact ⟨k + 1, a, L1, ⟨by omega, by omega⟩, by go_num, ⟨by omega, by omega⟩, by omega, HP0.out.gr (by repeat (first | exact Gr.refl _ | assumption | exact Dr.gr (by assumption) | refine Gr.alloc ?_ _ | refine Gr.drewN ?_ _ | refine Gr.drew ?_ | refine Gr.trans ?_ (by assumption) | refine Gr.trans ?_ (Dr.gr (by assumption))))⟩
      case measure => simp [intOf]; omega
    · -- Put
      have HL1 := putL_len a L Y Z
      go_wp2_with fail
      go_region_held3 (fun z => z.cell? ⟨B, 0, none⟩ = some (.int .i64 X) ∧ z.cell? ⟨B, 1, none⟩ = some (.int .i64 Y) ∧ z.cell? ⟨B, 2, none⟩ = some (.int .i64 Z)) (first | exact hS0 | exact keepP hS hk2 rfl | exact keepP hS hk3 rfl) (first | (go_at_call 11; have hS := ‹World.cell? _ ⟨B, 0, none⟩ = _ ∧ World.cell? _ ⟨B, 1, none⟩ = _ ∧ World.cell? _ ⟨B, 2, none⟩ = _›; refine (lput (hP.gr (by repeat (first | exact Gr.refl _ | assumption | exact Dr.gr (by assumption) | refine Gr.alloc ?_ _ | refine Gr.drewN ?_ _ | refine Gr.drew ?_ | refine Gr.trans ?_ (by assumption) | refine Gr.trans ?_ (Dr.gr (by assumption))))) Y Z (by omega) (by omega) hkb).mono ?_; rintro e v1 ⟨rfl, hP2, hk2⟩) | (go_at_call 12; have hS := ‹World.cell? _ ⟨B, 0, none⟩ = _ ∧ World.cell? _ ⟨B, 1, none⟩ = _ ∧ World.cell? _ ⟨B, 2, none⟩ = _›; refine (rput (hP2.gr (by repeat (first | exact Gr.refl _ | assumption | exact Dr.gr (by assumption) | refine Gr.alloc ?_ _ | refine Gr.drewN ?_ _ | refine Gr.drew ?_ | refine Gr.trans ?_ (by assumption) | refine Gr.trans ?_ (Dr.gr (by assumption))))) Y Z (by omega) (by omega) (by omega) hkb).mono ?_; rintro e v2 ⟨rfl, hP3, hk3⟩))
      clear hP hP2 hk2 hk3 d1 d2 d0 hS0
      have hP := hP3
      clear hP3
      generalize putL a L Y Z = L1 at *
      generalize inK a Y = tb at *
      have hP0 := hP.mono (PC := fun _ => False) (fun t e => e.elim)
      obtain ⟨q0, ⟨yl, yc, q1⟩, -⟩ := hP0.cell
      have HA := hide (fun v (hv : Dr v2 v) => lat (hP0.gr hv.gr))
      have HL := hide (fun v (hv : Dr v2 v) => llen (hP0.gr hv.gr))
      have HP0 := hide hP0
      clear hP hP0
      go_wp2_with fail
      go_quiet (first | (go_at_call 17; refine Calls.quiet_of_same (HA.out _ ⟨_, rfl⟩)) | (go_at_call 18; refine Calls.quiet_of_same (HL.out _ ⟨_, rfl⟩)))
      go_wp2
      go_roundw
      case rel => exact ⟨k + 1, a, L1, ⟨by omega, by omega⟩, by go_num, ⟨by omega, by omega⟩, by omega, HP0.out.gr (by repeat (first | exact Gr.refl _ | assumption | exact Dr.gr (by assumption) | refine Gr.alloc ?_ _ | refine Gr.drewN ?_ _ | refine Gr.drew ?_ | refine Gr.trans ?_ (by assumption) | refine Gr.trans ?_ (Dr.gr (by assumption))))⟩
      case measure => simp [intOf]; omega
    · -- Pop
      obtain ⟨ky, it, ok, a1, L1, hpi⟩ := pop_is a L
      have hbd := hpi.bd hP.near
      go_wp2_with fail
      refine (lpop hP hpi (by omega) (by omega)).mono ?_
      rintro e v1 ⟨rfl, hP2, -⟩
      go_wp2_with fail
      refine (rpop hP2 hpi (by omega)).mono ?_
      rintro e v2 ⟨rfl, hP3, -⟩
      clear hP hP2 hpi d1 d2 d0 hS0
      have hP := hP3
      clear hP3
      have hP0 := hP.mono (PC := fun _ => False) (fun t e => e.elim)
      obtain ⟨q0, ⟨yl, yc, q1⟩, -⟩ := hP0.cell
      have HA := hide (fun v (hv : Dr v2 v) => lat (hP0.gr hv.gr))
      have HL := hide (fun v (hv : Dr v2 v) => llen (hP0.gr hv.gr))
      have HP0 := hide hP0
      clear hP hP0
      go_wp2_with fail
      go_quiet (first | (go_at_call 17; refine Calls.quiet_of_same (HA.out _ ⟨_, rfl⟩)) | (go_at_call 18; refine Calls.quiet_of_same (HL.out _ ⟨_, rfl⟩)))
      go_wp2
      go_roundw
      case rel => exact ⟨k + 1, a1, L1, ⟨by omega, by omega⟩, by go_num, ⟨by omega, by omega⟩, by omega, HP0.out.gr (by repeat (first | exact Gr.refl _ | assumption | exact Dr.gr (by assumption) | refine Gr.alloc ?_ _ | refine Gr.drewN ?_ _ | refine Gr.drew ?_ | refine Gr.trans ?_ (by assumption) | refine Gr.trans ?_ (Dr.gr (by assumption))))⟩
      case measure => simp [intOf]; omega
    · -- Jump
      have hjb := jmp_bd (a := a) (L := L) (B := 1099511627776 + 255 * k) (by omega) (by omega) (by omega) Y
      go_wp2_with fail
      go_region_held3 (fun z => z.cell? ⟨B, 0, none⟩ = some (.int .i64 X) ∧ z.cell? ⟨B, 1, none⟩ = some (.int .i64 Y) ∧ z.cell? ⟨B, 2, none⟩ = some (.int .i64 Z)) (first | exact hS0 | exact keepP hS hk2 rfl | exact keepP hS hk3 rfl) (first | (go_at_call 15; have hS := ‹World.cell? _ ⟨B, 0, none⟩ = _ ∧ World.cell? _ ⟨B, 1, none⟩ = _ ∧ World.cell? _ ⟨B, 2, none⟩ = _›; refine (ljump (hP.gr (by repeat (first | exact Gr.refl _ | assumption | exact Dr.gr (by assumption) | refine Gr.alloc ?_ _ | refine Gr.drewN ?_ _ | refine Gr.drew ?_ | refine Gr.trans ?_ (by assumption) | refine Gr.trans ?_ (Dr.gr (by assumption))))) Y).mono ?_; rintro e v1 ⟨rfl, hP2, hk2⟩) | (go_at_call 16; have hS := ‹World.cell? _ ⟨B, 0, none⟩ = _ ∧ World.cell? _ ⟨B, 1, none⟩ = _ ∧ World.cell? _ ⟨B, 2, none⟩ = _›; refine (rjump (hP2.gr (by repeat (first | exact Gr.refl _ | assumption | exact Dr.gr (by assumption) | refine Gr.alloc ?_ _ | refine Gr.drewN ?_ _ | refine Gr.drew ?_ | refine Gr.trans ?_ (by assumption) | refine Gr.trans ?_ (Dr.gr (by assumption))))) Y (by omega)).mono ?_; rintro e v2 ⟨rfl, hP3, hk3⟩))
      clear hP hP2 hk2 hk3 d1 d2 d0 hS0
      have hP := hP3
      clear hP3
      generalize jmp a L Y = a1 at *
      generalize inJ a L Y = tb at *
      have hP0 := hP.mono (PC := fun _ => False) (fun t e => e.elim)
      obtain ⟨q0, ⟨yl, yc, q1⟩, -⟩ := hP0.cell
      have HA := hide (fun v (hv : Dr v2 v) => lat (hP0.gr hv.gr))
      have HL := hide (fun v (hv : Dr v2 v) => llen (hP0.gr hv.gr))
      have HP0 := hide hP0
      clear hP hP0
      go_wp2_with fail
      go_quiet (first | (go_at_call 17; refine Calls.quiet_of_same (HA.out _ ⟨_, rfl⟩)) | (go_at_call 18; refine Calls.quiet_of_same (HL.out _ ⟨_, rfl⟩)))
      go_wp2
      go_roundw
      case rel => exact ⟨k + 1, a1, L, ⟨by omega, by omega⟩, by go_num, ⟨by omega, by omega⟩, by omega, HP0.out.gr (by repeat (first | exact Gr.refl _ | assumption | exact Dr.gr (by assumption) | refine Gr.alloc ?_ _ | refine Gr.drewN ?_ _ | refine Gr.drew ?_ | refine Gr.trans ?_ (by assumption) | refine Gr.trans ?_ (Dr.gr (by assumption))))⟩
      case measure => simp [intOf]; omega

set_option maxHeartbeats 1000000 in
theorem plays_out (f : Int) (al : Option Addr) (n cap : Nat) (w : World) (hf : f < 0 ∨ 1099511627776 < f) :
    Calls Try.prog 3 #[.int .i64 f, .slice al n cap, .bool true] w fun e w' => e = .returned (.bool true) ∧ Gr w w' := by
  by_cases f0 : f < 0
  · clear hf
    go_enter Try.func3, Try.ntmps3
    go_wp2_with fail
    refine (qnew_no f w (by omega)).mono ?_
    rintro e w1 ⟨rfl, rfl⟩
    go_wp2_with fail
    refine (told7_any _).mono ?_
    rintro e w9 ⟨rfl, hg9⟩
    go_wp2_with fail
    go_ret
    exact ⟨rfl, hg9⟩
  · have f1 : 1099511627776 < f := by omega
    clear hf
    go_enter Try.func3, Try.ntmps3
    go_wp2_with fail
    refine (qnew_no f w (by omega)).mono ?_
    rintro e w1 ⟨rfl, rfl⟩
    go_wp2_with fail
    refine (told7_any _).mono ?_
    rintro e w9 ⟨rfl, hg9⟩
    go_wp2_with fail
    go_ret
    exact ⟨rfl, hg9⟩

set_option maxHeartbeats 8000000 in
theorem plays_near (f1 : Int) (al : Option Addr) (n cap : Nat) (z : Nat → Nat → Int) (w : World) (h : IsSt 3 w al n cap z) (hn : n ≤ maxLen) :
    Calls Try.prog 3 #[.int .i64 f1, .slice al n cap, .bool false] w fun e w' => e = .returned (.bool true) ∧ Gr w w' := by
  unfold maxLen at hn
  have fb := within_bd f1 0 5000 (by omega)
  obtain ⟨f, hf⟩ : ∃ f, f = withinF f1 0 5000 := ⟨_, rfl⟩
  have F := hide hf
  rw [← hf] at fb
  clear hf
  go_enter Try.func3, Try.ntmps3
  go_wp2_with fail
  refine (within_st _ _ _ _ (by omega) (by omega) (by omega)).mono ?_
  rintro e w ⟨rfl, rfl⟩
  rw [← F.out]
  go_wp2_with fail
  refine (qnew_yes f w (by omega) (by omega)).mono ?_
  rintro e w1 ⟨rfl, hr, hs, hg⟩
  have HPL := hide (pl_start hr hs hg)
  clear hr hs hg
  obtain ⟨p, hp⟩ : ∃ p, p = w.heap.size := ⟨_, rfl⟩
  rw [← hp] at HPL ⊢
  clear hp
  go_wp2_with fail
  obtain ⟨q, hq⟩ : ∃ q, q = w1.heap.size := ⟨_, rfl⟩
  rw [← hq] at HPL ⊢
  clear hq
  go_loopw [9] (fun i u => ∃ (k : Nat) (a : Int) (L : List (Int × Int)), (k ≤ 60 ∧ k ≤ n) ∧ i = .int .i64 k ∧ (0 ≤ a ∧ a ≤ 1099511627776 + 255 * k) ∧ L.length ≤ k ∧ Pl w u p q a L a L (fun _ => False)) (fun i _ => 60 - (intOf i).toNat)
  case atStart => exact ⟨0, f, [], ⟨by omega, by omega⟩, rfl, ⟨by omega, by omega⟩, Nat.le_refl _, HPL.out⟩
  case round =>
    clear HPL
    obtain ⟨k, a, L, ⟨hk1, hk2⟩, rfl, ⟨ha0, ha1⟩, hL, hP⟩ := hrel
    by_cases hdone : ¬ k < n
    · have t1 : ¬ (k : Int) < (n : Int) := by omega
      go_wp2_with fail
      refine (told7_any _).mono ?_
      rintro e w9 ⟨rfl, hg9⟩
      go_wp2_with fail
      go_ret
      exact ⟨rfl, hP.g.trans hg9⟩
    have t1 : (k : Int) < (n : Int) := by omega
    by_cases hdone2 : ¬ k < 60
    · have t2 : ¬ (k : Int) < 60 := by omega
      go_wp2_with fail
      refine (told7_any _).mono ?_
      rintro e w9 ⟨rfl, hg9⟩
      go_wp2_with fail
      go_ret
      exact ⟨rfl, hP.g.trans hg9⟩
    have t2 : (k : Int) < 60 := by omega
    have hkl : k < n := by omega
    have hk60 : k < 60 := by omega
    clear hdone hdone2
    obtain ⟨b, o, rfl, hB, hcell⟩ := (h.has (by omega)).resolve_left (by omega)
    have l0 := cell_gr (hcell k hkl 0 (by omega)).1 hP.g
    have l1 := cell_gr (hcell k hkl 1 (by omega)).1 hP.g
    have l2 := cell_gr (hcell k hkl 2 (by omega)).1 hP.g
    have hyw := wf_i64 (hcell k hkl 1 (by omega)).2
    rw [Nat.add_zero] at l0
    generalize z k 0 = X at *
    generalize z k 1 = Y at *
    generalize z k 2 = Z at *
    clear hcell
    have xb := within_bd X 0 3 (by omega)
    go_upto_region 14 with fail
    have hPb := hP.box (.cells #[.int .i64 X, .int .i64 Y, .int .i64 Z] 32)
    have hrow := tri_alloc wr (.int .i64 X) (.int .i64 Y) (.int .i64 Z) 32
    have hBw : w.heap.size ≤ wr.heap.size := Below.size hP.g
    obtain ⟨U, hU⟩ : ∃ U, U = wr.alloc (.cells #[.int .i64 X, .int .i64 Y, .int .i64 Z] 32) := ⟨_, rfl⟩
    rw [← hU] at hPb hrow ⊢
    generalize wr.heap.size = B at *
    clear hU hP l0 l1 l2
    have hP := hPb
    clear hPb
    have yb := within_bd Y (-3) 259 (by omega)
    have c0 := hP.cell.1
    have e0 : U.cell? ⟨B, 0, none⟩ = some (.int .i64 X) := hrow.cell (i := 0) (by omega)
    have e1 : U.cell? ⟨B, 1, none⟩ = some (.int .i64 Y) := hrow.cell (i := 1) (by omega)
    have ef := fun i => hrow.frozen i
    have hww : IntKind.i64.wrap (a + withinF Y (-3) 259) = a + withinF Y (-3) 259 := wrapI (by omega)
    go_cut [] from 39 to 135 (fun v => Pl w v p q a L a L (fun t => t = B) ∧ v.rowIs B 32 3 (tri (.int .i64 X) (.int .i64 (a + withinF Y (-3) 259)) (.int .i64 Z)))
    case first =>
      go_region_with (go_at_call 8; refine (within_st _ _ _ _ (by omega) (by omega) (by omega)).mono ?_; rintro e w8 ⟨rfl, rfl⟩)
      all_goals (go_wp2_with fail; go_meet)
      all_goals exact ⟨(hP.set (B := B) (i := 1) rfl hBw _).gr (by repeat (first | exact Gr.refl _ | assumption | exact Dr.gr (by assumption) | refine Gr.alloc ?_ _ | refine Gr.drewN ?_ _ | refine Gr.drew ?_ | refine Gr.trans ?_ (by assumption) | refine Gr.trans ?_ (Dr.gr (by assumption)))), (hrow.set 1 (.int .i64 (a + withinF Y (-3) 259))).congr (fun i hi => by rcases (by omega : i = 0 ∨ i = 1 ∨ i = 2) with rfl | rfl | rfl <;> rfl)⟩
    case rest =>
      obtain ⟨hP2, hrow2⟩ := hcut
      clear hP hrow c0 e0 e1 ef
      have hP := hP2
      have hrow := hrow2
      clear hP2 hrow2
      obtain ⟨Y2, hY2⟩ : ∃ Y2, Y2 = a + withinF Y (-3) 259 := ⟨_, rfl⟩
      have hkb : Y2 ≤ 9223372036854775807 := by omega
      rw [← hY2] at hrow
      clear hY2 yb
      have d0 : wc.cell? ⟨B, 0, none⟩ = some (.int .i64 X) := hrow.cell (i := 0) (by omega)
      have d1 : wc.cell? ⟨B, 1, none⟩ = some (.int .i64 Y2) := hrow.cell (i := 1) (by omega)
      have d2 : wc.cell? ⟨B, 2, none⟩ = some (.int .i64 Z) := hrow.cell (i := 2) (by omega)
      have hS0 : wc.cell? ⟨B, 0, none⟩ = some (.int .i64 X) ∧ wc.cell? ⟨B, 1, none⟩ = some (.int .i64 Y2) ∧ wc.cell? ⟨B, 2, none⟩ = some (.int .i64 Z) := ⟨d0, d1, d2⟩
      clear hrow
      go_wp2_with fail
      refine (within_st _ _ _ _ (by omega) (by omega) (by omega)).mono ?_
      rintro e wc ⟨rfl, rfl⟩
      obtain ⟨kk, hkk⟩ : ∃ kk, kk = withinF X 0 3 := ⟨_, rfl⟩
      rw [← hkk] at xb ⊢
      clear hkk
      rcases (by omega : kk = 0 ∨ kk = 1 ∨ kk = 2 ∨ kk = 3) with rfl | rfl | rfl | rfl
      · -- Put
        have HL1 := putL_len a L Y2 Z
        go_wp2_with fail
        go_region_held3 (fun z => z.cell? ⟨B, 0, none⟩ = some (.int .i64 X) ∧ z.cell? ⟨B, 1, none⟩ = some (.int .i64 Y2) ∧ z.cell? ⟨B, 2, none⟩ = some (.int .i64 Z)) (first | exact hS0 | exact keepP hS hk2 rfl | exact keepP hS hk3 rfl) (first | (go_at_call 11; have hS := ‹World.cell? _ ⟨B, 0, none⟩ = _ ∧ World.cell? _ ⟨B, 1, none⟩ = _ ∧ World.cell? _ ⟨B, 2, none⟩ = _›; refine (lput (hP.gr (by repeat (first | exact Gr.refl _ | assumption | exact Dr.gr (by assumption) | refine Gr.alloc ?_ _ | refine Gr.drewN ?_ _ | refine Gr.drew ?_ | refine Gr.trans ?_ (by assumption) | refine Gr.trans ?_ (Dr.gr (by assumption))))) Y2 Z (by omega) (by omega) hkb).mono ?_; rintro e v1 ⟨rfl, hP2, hk2⟩) | (go_at_call 12; have hS := ‹World.cell? _ ⟨B, 0, none⟩ = _ ∧ World.cell? _ ⟨B, 1, none⟩ = _ ∧ World.cell? _ ⟨B, 2, none⟩ = _›; refine (rput (hP2.gr (by repeat (first | exact Gr.refl _ | assumption | exact Dr.gr (by assumption) | refine Gr.alloc ?_ _ | refine Gr.drewN ?_ _ | refine Gr.drew ?_ | refine Gr.trans ?_ (by assumption) | refine Gr.trans ?_ (Dr.gr (by assumption))))) Y2 Z (by omega) (by omega) (by omega) hkb).mono ?_; rintro e v2 ⟨rfl, hP3, hk3⟩))
        clear hP hP2 hk2 hk3 d1 d2 d0 hS0
        have hP := hP3
        clear hP3
        generalize putL a L Y2 Z = L1 at *
        generalize inK a Y2 = tb at *
        have hP0 := hP.mono (PC := fun _ => False) (fun t e => e.elim)
        obtain ⟨q0, ⟨yl, yc, q1⟩, -⟩ := hP0.cell
        have HA := hide (fun v (hv : Dr v2 v) => lat (hP0.gr hv.gr))
        have HL := hide (fun v (hv : Dr v2 v) => llen (hP0.gr hv.gr))
        have HP0 := hide hP0
        clear hP hP0
        go_wp2_with fail
        go_quiet (first | (go_at_call 17; refine Calls.quiet_of_same (HA.out _ ⟨_, rfl⟩)) | (go_at_call 18; refine Calls.quiet_of_same (HL.out _ ⟨_, rfl⟩)))
        go_wp2
        go_roundw
        case rel => exact ⟨k + 1, a, L1, ⟨by omega, by omega⟩, by go_num, ⟨by omega, by omega⟩, by omega, HP0.out.gr (by repeat (first | exact Gr.refl _ | assumption | exact Dr.gr (by assumption) | refine Gr.alloc ?_ _ | refine Gr.drewN ?_ _ | refine Gr.drew ?_ | refine Gr.trans ?_ (by assumption) | refine Gr.trans ?_ (Dr.gr (by assumption))))⟩
        case measure => simp [intOf]; omega
      · -- Put
        have HL1 := putL_len a L Y2 Z
        go_wp2_with fail
        go_region_held3 (fun z => z.cell? ⟨B, 0, none⟩ = some (.int .i64 X) ∧ z.cell? ⟨B, 1, none⟩ = some (.int .i64 Y2) ∧ z.cell? ⟨B, 2, none⟩ = some (.int .i64 Z)) (first | exact hS0 | exact keepP hS hk2 rfl | exact keepP hS hk3 rfl) (first | (go_at_call 11; have hS := ‹World.cell? _ ⟨B, 0, none⟩ = _ ∧ World.cell? _ ⟨B, 1, none⟩ = _ ∧ World.cell? _ ⟨B, 2, none⟩ = _›; refine (lput (hP.gr (by repeat (first | exact Gr.refl _ | assumption | exact Dr.gr (by assumption) | refine Gr.alloc ?_ _ | refine Gr.drewN ?_ _ | refine Gr.drew ?_ | refine Gr.trans ?_ (by assumption) | refine Gr.trans ?_ (Dr.gr (by assumption))))) Y2 Z (by omega) (by omega) hkb).mono ?_; rintro e v1 ⟨rfl, hP2, hk2⟩) | (go_at_call 12; have hS := ‹World.cell? _ ⟨B, 0, none⟩ = _ ∧ World.cell? _ ⟨B, 1, none⟩ = _ ∧ World.cell? _ ⟨B, 2, none⟩ = _›; refine (rput (hP2.gr (by repeat (first | exact Gr.refl _ | assumption | exact Dr.gr (by assumption) | refine Gr.alloc ?_ _ | refine Gr.drewN ?_ _ | refine Gr.drew ?_ | refine Gr.trans ?_ (by assumption) | refine Gr.trans ?_ (Dr.gr (by assumption))))) Y2 Z (by omega) (by omega) (by omega) hkb).mono ?_; rintro e v2 ⟨rfl, hP3, hk3⟩))
        clear hP hP2 hk2 hk3 d1 d2 d0 hS0
        have hP := hP3
        clear hP3
        generalize putL a L Y2 Z = L1 at *
        generalize inK a Y2 = tb at *
        have hP0 := hP.mono (PC := fun _ => False) (fun t e => e.elim)
        obtain ⟨q0, ⟨yl, yc, q1⟩, -⟩ := hP0.cell
        have HA := hide (fun v (hv : Dr v2 v) => lat (hP0.gr hv.gr))
        have HL := hide (fun v (hv : Dr v2 v) => llen (hP0.gr hv.gr))
        have HP0 := hide hP0
        clear hP hP0
        go_wp2_with fail
        go_quiet (first | (go_at_call 17; refine Calls.quiet_of_same (HA.out _ ⟨_, rfl⟩)) | (go_at_call 18; refine Calls.quiet_of_same (HL.out _ ⟨_, rfl⟩)))
        go_wp2
        go_roundw
        case rel => exact ⟨k + 1, a, L1, ⟨by omega, by omega⟩, by go_num, ⟨by omega, by omega⟩, by omega, HP0.out.gr (by repeat (first | exact Gr.refl _ | assumption | exact Dr.gr (by assumption) | refine Gr.alloc ?_ _ | refine Gr.drewN ?_ _ | refine Gr.drew ?_ | refine Gr.trans ?_ (by assumption) | refine Gr.trans ?_ (Dr.gr (by assumption))))⟩
        case measure => simp [intOf]; omega
      · -- Pop
        obtain ⟨ky, it, ok, a1, L1, hpi⟩ := pop_is a L
        have hbd := hpi.bd hP.near
        go_wp2_with fail
        refine (lpop hP hpi (by omega) (by omega)).mono ?_
        rintro e v1 ⟨rfl, hP2, -⟩
        go_wp2_with fail
        refine (rpop hP2 hpi (by omega)).mono ?_
        rintro e v2 ⟨rfl, hP3, -⟩
        clear hP hP2 hpi d1 d2 d0 hS0
        have hP := hP3
        clear hP3
        have hP0 := hP.mono (PC := fun _ => False) (fun t e => e.elim)
        obtain ⟨q0, ⟨yl, yc, q1⟩, -⟩ := hP0.cell
        have HA := hide (fun v (hv : Dr v2 v) => lat (hP0.gr hv.gr))
        have HL := hide (fun v (hv : Dr v2 v) => llen (hP0.gr hv.gr))
        have HP0 := hide hP0
        clear hP hP0
        go_wp2_with fail
        go_quiet (first | (go_at_call 17; refine Calls.quiet_of_same (HA.out _ ⟨_, rfl⟩)) | (go_at_call 18; refine Calls.quiet_of_same (HL.out _ ⟨_, rfl⟩)))
        go_wp2
        go_roundw
        case rel => exact ⟨k + 1, a1, L1, ⟨by omega, by omega⟩, by go_num, ⟨by omega, by omega⟩, by omega, HP0.out.gr (by repeat (first | exact Gr.refl _ | assumption | exact Dr.gr (by assumption) | refine Gr.alloc ?_ _ | refine Gr.drewN ?_ _ | refine Gr.drew ?_ | refine Gr.trans ?_ (by assumption) | refine Gr.trans ?_ (Dr.gr (by assumption))))⟩
        case measure => simp [intOf]; omega
      · -- Jump
        have hjb := jmp_bd (a := a) (L := L) (B := 1099511627776 + 255 * k) (by omega) (by omega) (by omega) Y2
        go_wp2_with fail
        go_region_held3 (fun z => z.cell? ⟨B, 0, none⟩ = some (.int .i64 X) ∧ z.cell? ⟨B, 1, none⟩ = some (.int .i64 Y2) ∧ z.cell? ⟨B, 2, none⟩ = some (.int .i64 Z)) (first | exact hS0 | exact keepP hS hk2 rfl | exact keepP hS hk3 rfl) (first | (go_at_call 15; have hS := ‹World.cell? _ ⟨B, 0, none⟩ = _ ∧ World.cell? _ ⟨B, 1, none⟩ = _ ∧ World.cell? _ ⟨B, 2, none⟩ = _›; refine (ljump (hP.gr (by repeat (first | exact Gr.refl _ | assumption | exact Dr.gr (by assumption) | refine Gr.alloc ?_ _ | refine Gr.drewN ?_ _ | refine Gr.drew ?_ | refine Gr.trans ?_ (by assumption) | refine Gr.trans ?_ (Dr.gr (by assumption))))) Y2).mono ?_; rintro e v1 ⟨rfl, hP2, hk2⟩) | (go_at_call 16; have hS := ‹World.cell? _ ⟨B, 0, none⟩ = _ ∧ World.cell? _ ⟨B, 1, none⟩ = _ ∧ World.cell? _ ⟨B, 2, none⟩ = _›; refine (rjump (hP2.gr (by repeat (first | exact Gr.refl _ | assumption | exact Dr.gr (by assumption) | refine Gr.alloc ?_ _ | refine Gr.drewN ?_ _ | refine Gr.drew ?_ | refine Gr.trans ?_ (by assumption) | refine Gr.trans ?_ (Dr.gr (by assumption))))) Y2 (by omega)).mono ?_; rintro e v2 ⟨rfl, hP3, hk3⟩))
        clear hP hP2 hk2 hk3 d1 d2 d0 hS0
        have hP := hP3
        clear hP3
        generalize jmp a L Y2 = a1 at *
        generalize inJ a L Y2 = tb at *
        have hP0 := hP.mono (PC := fun _ => False) (fun t e => e.elim)
        obtain ⟨q0, ⟨yl, yc, q1⟩, -⟩ := hP0.cell
        have HA := hide (fun v (hv : Dr v2 v) => lat (hP0.gr hv.gr))
        have HL := hide (fun v (hv : Dr v2 v) => llen (hP0.gr hv.gr))
        have HP0 := hide hP0
        clear hP hP0
        go_wp2_with fail
        go_quiet (first | (go_at_call 17; refine Calls.quiet_of_same (HA.out _ ⟨_, rfl⟩)) | (go_at_call 18; refine Calls.quiet_of_same (HL.out _ ⟨_, rfl⟩)))
        go_wp2
        go_roundw
        case rel => exact ⟨k + 1, a1, L, ⟨by omega, by omega⟩, by go_num, ⟨by omega, by omega⟩, by omega, HP0.out.gr (by repeat (first | exact Gr.refl _ | assumption | exact Dr.gr (by assumption) | refine Gr.alloc ?_ _ | refine Gr.drewN ?_ _ | refine Gr.drew ?_ | refine Gr.trans ?_ (by assumption) | refine Gr.trans ?_ (Dr.gr (by assumption))))⟩
        case measure => simp [intOf]; omega
end Go.Proofs.Ytjnoklfmdckidaa
