/- What a grid's isCell, isSector, Size, Cost, Epoch, Version answer, of one in memory and of none; nothing that was there is written. -/
import Derived.Test.YtmejpildmapfiaaGBase
namespace Go.Proofs.Ytmejpildmapfiaa
open Go.RowKit
set_option maxRecDepth 20000

set_option maxHeartbeats 1000000 in
theorem gisCell_any {w : World} {p c v : Nat} {W H : Int} {N cc : Nat} {f : Nat → Int} {ep : Int} {ver : Nat → Int} (h : Gd w p c v W H N cc f ep ver) (x : Int) :
    Calls Try.prog 35 #[.pointer (some ⟨p, 0, none⟩), .int .i64 x] w fun e w' => e = .returned (.bool (decide (0 ≤ x ∧ x < N))) ∧ Gr w w' := by
  obtain ⟨c0, c1, c2, c3, c4⟩ := h.cells
  clear h
  by_cases h0 : 0 ≤ x
  · go_enter Try.func35, Try.ntmps35
    go_wp2
    go_ret
    exact ⟨ret_bool (by simp [h0]), (by repeat (first | exact Gr.refl _ | assumption | exact Dr.gr (by assumption) | refine Gr.alloc ?_ _ | refine Gr.drewN ?_ _ | refine Gr.drew ?_ | refine Gr.trans ?_ (by assumption) | refine Gr.trans ?_ (Dr.gr (by assumption))))⟩
  · go_enter Try.func35, Try.ntmps35
    go_wp2
    go_ret
    exact ⟨ret_bool (by simp; omega), (by repeat (first | exact Gr.refl _ | assumption | exact Dr.gr (by assumption) | refine Gr.alloc ?_ _ | refine Gr.drewN ?_ _ | refine Gr.drew ?_ | refine Gr.trans ?_ (by assumption) | refine Gr.trans ?_ (Dr.gr (by assumption))))⟩

set_option maxHeartbeats 1000000 in
theorem gisSector_any {w : World} {p c v : Nat} {W H : Int} {N cc : Nat} {f : Nat → Int} {ep : Int} {ver : Nat → Int} (h : Gd w p c v W H N cc f ep ver) (x : Int) :
    Calls Try.prog 37 #[.pointer (some ⟨p, 0, none⟩), .int .i64 x] w fun e w' => e = .returned (.bool (decide (0 ≤ x ∧ x < cntS W H))) ∧ Gr w w' := by
  obtain ⟨c0, c1, c2, c3, c4⟩ := h.cells
  clear h
  by_cases h0 : 0 ≤ x
  · go_enter Try.func37, Try.ntmps37
    go_wp2
    go_ret
    exact ⟨ret_bool (by simp [h0]), (by repeat (first | exact Gr.refl _ | assumption | exact Dr.gr (by assumption) | refine Gr.alloc ?_ _ | refine Gr.drewN ?_ _ | refine Gr.drew ?_ | refine Gr.trans ?_ (by assumption) | refine Gr.trans ?_ (Dr.gr (by assumption))))⟩
  · go_enter Try.func37, Try.ntmps37
    go_wp2
    go_ret
    exact ⟨ret_bool (by simp; omega), (by repeat (first | exact Gr.refl _ | assumption | exact Dr.gr (by assumption) | refine Gr.alloc ?_ _ | refine Gr.drewN ?_ _ | refine Gr.drew ?_ | refine Gr.trans ?_ (by assumption) | refine Gr.trans ?_ (Dr.gr (by assumption))))⟩

set_option maxHeartbeats 1000000 in
theorem gsize_any {w : World} {p c v : Nat} {W H : Int} {N cc : Nat} {f : Nat → Int} {ep : Int} {ver : Nat → Int} (h : Gd w p c v W H N cc f ep ver) :
    Calls Try.prog 22 #[.pointer (some ⟨p, 0, none⟩)] w fun e w' => e = .returned (.tuple #[.int .i64 W, .int .i64 H]) ∧ Gr w w' := by
  obtain ⟨c0, c1, c2, c3, c4⟩ := h.cells
  clear h
  go_enter Try.func22, Try.ntmps22
  go_wp2
  go_quiet (fail)
  go_wp2
  go_ret2
  exact ⟨rfl, (by repeat (first | exact Gr.refl _ | assumption | exact Dr.gr (by assumption) | refine Gr.alloc ?_ _ | refine Gr.drewN ?_ _ | refine Gr.drew ?_ | refine Gr.trans ?_ (by assumption) | refine Gr.trans ?_ (Dr.gr (by assumption))))⟩

set_option maxHeartbeats 1000000 in
theorem gepoch_any {w : World} {p c v : Nat} {W H : Int} {N cc : Nat} {f : Nat → Int} {ep : Int} {ver : Nat → Int} (h : Gd w p c v W H N cc f ep ver) :
    Calls Try.prog 17 #[.pointer (some ⟨p, 0, none⟩)] w fun e w' => e = .returned (.int .i64 ep) ∧ Gr w w' := by
  obtain ⟨c0, c1, c2, c3, c4⟩ := h.cells
  clear h
  go_enter Try.func17, Try.ntmps17
  go_wp2
  go_ret
  exact ⟨rfl, (by repeat (first | exact Gr.refl _ | assumption | exact Dr.gr (by assumption) | refine Gr.alloc ?_ _ | refine Gr.drewN ?_ _ | refine Gr.drew ?_ | refine Gr.trans ?_ (by assumption) | refine Gr.trans ?_ (Dr.gr (by assumption))))⟩

/-- a cell's cost, a sector's version; 0 of none -/
def gatF (n : Nat) (f : Nat → Int) (x : Int) : Int := if 0 ≤ x ∧ x < n then f x.toNat else 0

set_option maxHeartbeats 1000000 in
theorem gcost_any {w : World} {p c v : Nat} {W H : Int} {N cc : Nat} {f : Nat → Int} {ep : Int} {ver : Nat → Int} (h : Gd w p c v W H N cc f ep ver) (x : Int) :
    Calls Try.prog 28 #[.pointer (some ⟨p, 0, none⟩), .int .i64 x] w fun e w' => e = .returned (.int .i64 (gatF N f x)) ∧ Gr w w' := by
  have hb := h.bd
  have HG := hide h
  by_cases h0 : 0 ≤ x ∧ x < N
  · obtain ⟨k, rfl⟩ : ∃ k : Nat, x = k := ⟨x.toNat, by omega⟩
    have hk : k < N := by omega
    have E : Hid (f k = gatF N f k) := hide (by unfold gatF; rw [if_pos h0]; rfl)
    have hby := h.byte k hk
    have hcap := h.cap
    clear h
    have hd : decide (0 ≤ (k : Int) ∧ (k : Int) < N) = true := by simp; omega
    go_enter Try.func28, Try.ntmps28
    go_wp2_with (go_at_call 35; refine (gisCell_any HG.out _).mono ?_; rintro e w1 ⟨rfl, hg1⟩; rw [hd]; obtain ⟨c0, c1, c2, c3, c4⟩ := (HG.out.gr hg1).cells; have c5 := (HG.out.gr hg1).cost.cell hk)
    go_ret
    exact ⟨ret_int (by rw [← E.out]; try omega), (by repeat (first | exact Gr.refl _ | assumption | exact Dr.gr (by assumption) | refine Gr.alloc ?_ _ | refine Gr.drewN ?_ _ | refine Gr.drew ?_ | refine Gr.trans ?_ (by assumption) | refine Gr.trans ?_ (Dr.gr (by assumption))))⟩
  · have E : Hid (0 = gatF N f x) := hide (by unfold gatF; rw [if_neg h0])
    clear h
    have hd : decide (0 ≤ x ∧ x < N) = false := by simp; omega
    clear h0
    go_enter Try.func28, Try.ntmps28
    go_wp2_with (go_at_call 35; refine (gisCell_any HG.out _).mono ?_; rintro e w1 ⟨rfl, hg1⟩; rw [hd])
    go_ret
    exact ⟨ret_int E.out, (by repeat (first | exact Gr.refl _ | assumption | exact Dr.gr (by assumption) | refine Gr.alloc ?_ _ | refine Gr.drewN ?_ _ | refine Gr.drew ?_ | refine Gr.trans ?_ (by assumption) | refine Gr.trans ?_ (Dr.gr (by assumption))))⟩

set_option maxHeartbeats 1000000 in
theorem gversion_any {w : World} {p c v : Nat} {W H : Int} {N cc : Nat} {f : Nat → Int} {ep : Int} {ver : Nat → Int} (h : Gd w p c v W H N cc f ep ver) (x : Int) :
    Calls Try.prog 21 #[.pointer (some ⟨p, 0, none⟩), .int .i64 x] w fun e w' => e = .returned (.int .i64 (gatF (cntS W H) ver x)) ∧ Gr w w' := by
  have hb := h.bd
  have HG := hide h
  by_cases h0 : 0 ≤ x ∧ x < cntS W H
  · obtain ⟨k, rfl⟩ : ∃ k : Nat, x = k := ⟨x.toNat, by omega⟩
    have hk : k < cntS W H := by omega
    have E : Hid (ver k = gatF (cntS W H) ver k) := hide (by unfold gatF; rw [if_pos h0]; rfl)
    clear h
    have hd : decide (0 ≤ (k : Int) ∧ (k : Int) < cntS W H) = true := by simp; omega
    go_enter Try.func21, Try.ntmps21
    go_wp2_with (go_at_call 37; refine (gisSector_any HG.out _).mono ?_; rintro e w1 ⟨rfl, hg1⟩; rw [hd]; obtain ⟨c0, c1, c2, c3, c4⟩ := (HG.out.gr hg1).cells; have c5 := (HG.out.gr hg1).vers.cell hk)
    go_ret
    exact ⟨ret_int E.out, (by repeat (first | exact Gr.refl _ | assumption | exact Dr.gr (by assumption) | refine Gr.alloc ?_ _ | refine Gr.drewN ?_ _ | refine Gr.drew ?_ | refine Gr.trans ?_ (by assumption) | refine Gr.trans ?_ (Dr.gr (by assumption))))⟩
  · have E : Hid (0 = gatF (cntS W H) ver x) := hide (by unfold gatF; rw [if_neg h0])
    clear h
    have hd : decide (0 ≤ x ∧ x < cntS W H) = false := by simp; omega
    clear h0
    go_enter Try.func21, Try.ntmps21
    go_wp2_with (go_at_call 37; refine (gisSector_any HG.out _).mono ?_; rintro e w1 ⟨rfl, hg1⟩; rw [hd])
    go_ret
    exact ⟨ret_int E.out, (by repeat (first | exact Gr.refl _ | assumption | exact Dr.gr (by assumption) | refine Gr.alloc ?_ _ | refine Gr.drewN ?_ _ | refine Gr.drew ?_ | refine Gr.trans ?_ (by assumption) | refine Gr.trans ?_ (Dr.gr (by assumption))))⟩

end Go.Proofs.Ytmejpildmapfiaa
