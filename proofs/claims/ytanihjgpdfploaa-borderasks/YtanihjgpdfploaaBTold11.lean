/- told of law 11: it answers true; nothing that was there is written. -/
import Derived.Test.YtanihjgpdfploaaBRuns11
import Derived.Test.YtanihjgpdfploaaBSame11
namespace Go.Proofs.Ytanihjgpdfploaa
open Go.RowKit
set_option maxRecDepth 20000

theorem make_17 (w : World) : (Instr.makeSlice 22 (.int .i64 17) (.int .i64 17)).run Try.prog w = .ok (.slice (some ⟨w.heap.size, 0, none⟩) 17 17) (w.alloc (.cells (madeCells #[.int .u8 0] 17) 5)) := by
  obtain ⟨i0, hi, hz0, hz1, hz2⟩ := info_parts info_u8
  have hr := run_make (P := Try.prog) w 22 5 i0 (.int .u8 0) Try.underlying22 hi hz0 .i64 .i64 17 17 (by omega) (by omega) (by rw [hz2]; omega) (by omega)
  simp only [hz1, Nat.mul_one] at hr
  exact hr
def fOne (_ : Nat) : Int := 1
theorem may17 : mayM 17 1 17 fOne = true := (mayM_iff _ _ _ _).2 ⟨by decide, by decide, fun i _ => by unfold fOne; omega⟩
theorem nodes17 : nodesL 17 1 17 fOne 0 = [15] := by decide +kernel
theorem cross17 : crossK 17 1 17 fOne 15 4 = [(16, 1)] := by decide +kernel
theorem runs17 : runsL 17 1 17 fOne 0 1 = [(0, 1)] := by decide +kernel
theorem PlS.lit {u v : World} {b : Nat} {t : TypeId} (x y : Int) (e : b = v.heap.size) (g : Gr (v.alloc (.cells #[.int .i64 x, .int .i64 y] t)) u) : PlS u (some ⟨b, 0, none⟩) 1 1 [(x, y)] := by
  subst e
  refine ⟨rfl, Nat.le_refl _, by unfold maxLen; omega, .inr ⟨_, 0, rfl, ?_, fun i hi => ?_⟩⟩
  · have := g.size
    rw [World.size_alloc] at this
    omega
  · obtain rfl : i = 0 := by omega
    refine ⟨cell_gr ?_ g, cell_gr ?_ g⟩ <;> simp [go_sem, elP]

set_option maxHeartbeats 4000000 in
theorem told11_any (w : World) : Calls Try.prog 14 #[] w fun e w' => e = .returned (.bool true) ∧ Gr w w' := by
  have hmk := make_17 w
  have hR := Row.of_is (World.rowIs_made w (.int .u8 0) 17 5)
  have hB := tri_alloc (w.alloc (.cells (madeCells #[.int .u8 0] 17) 5)) (.int .i64 17) (.int .i64 1) (.slice (some ⟨w.heap.size, 0, none⟩) 17 17) 24
  have hR2 := hR.gr ((Gr.refl _).alloc (.cells #[.int .i64 17, .int .i64 1, .slice (some ⟨w.heap.size, 0, none⟩) 17 17] 24))
  have hG := ((Gr.refl w).alloc (.cells (madeCells #[.int .u8 0] 17) 5)).alloc (.cells #[.int .i64 17, .int .i64 1, .slice (some ⟨w.heap.size, 0, none⟩) 17 17] 24)
  rw [World.size_alloc] at hB
  clear hR
  go_enter Try.func14, Try.ntmps14
  go_wp2_with fail
  go_loopw [2] (fun i z => ∃ k : Nat, k ≤ 17 ∧ i = .int .i64 k ∧ Row z w.heap.size 5 .u8 17 (fun j => if j < k then 1 else 0) ∧ z.rowIs (w.heap.size + 1) 24 3 (tri (.int .i64 17) (.int .i64 1) (.slice (some ⟨w.heap.size, 0, none⟩) 17 17)) ∧ Gr w z) (fun i _ => 17 - (intOf i).toNat)
  case atStart => exact ⟨0, by omega, rfl, hR2.congr fun i _ => by simp, hB, hG⟩
  case round =>
    clear hR2 hB hG hmk
    obtain ⟨k, hk, rfl, hr, hb, hg⟩ := hrel
    obtain ⟨c1, c2, c3, -, -, -⟩ := row_cells hb
    by_cases hlt : k < 17
    · have hkI : (k : Int) < 17 := by omega
      have hk0 : 0 ≤ (k : Int) := by omega
      have d0 := hr.cell hlt
      have f0 := hr.frozen k
      have h1 := (hr.set k 1).congr (g := fun j => if j < k + 1 then 1 else 0) fun i hi => by
        by_cases e : i = k
        · rw [if_pos e, if_pos (by omega)]
        · rw [if_neg e]
          by_cases e2 : i < k
          · rw [if_pos e2, if_pos (by omega)]
          · rw [if_neg e2, if_neg (by omega)]
      have h2 : (wr.setCell ⟨w.heap.size, k, none⟩ (.int .u8 1)).rowIs (w.heap.size + 1) 24 3 (tri (.int .i64 17) (.int .i64 1) (.slice (some ⟨w.heap.size, 0, none⟩) 17 17)) := hb.setOther (a := ⟨w.heap.size, k, none⟩) (by show w.heap.size + 1 ≠ w.heap.size; omega) _
      have h3 := hg.set (p := ⟨w.heap.size, k, none⟩) (by exact Nat.le_refl _) (.int .u8 1)
      clear hr hb hg
      go_wp2_with fail
      go_roundw
      case rel => exact ⟨k + 1, by omega, by go_num, h1, h2, h3⟩
      case measure => simp [intOf]; omega
    · have hkI : ¬ (k : Int) < 17 := by omega
      have hsl := (hr.congr (g := fOne) fun i hi => by rw [if_pos (by omega)]; rfl).sl fun i _ => by unfold fOne; omega
      clear hr
      go_wp2_with fail
      refine (gnew_yes 17 1 _ 17 17 fOne 0 wr hsl may17 (by omega)).mono ?_
      rintro e w1 ⟨⟨p, c, v, cc, rfl, hgd, -, -, -⟩, hg1⟩
      have HG := hide hgd
      replace hg := hg.trans hg1
      clear hgd hg1 hsl c1 c2 c3 hb
      go_wp2_with fail
      refine (bnodes_any HG.out 0).mono ?_
      rintro e w2 ⟨⟨v2, rfl, hown⟩, hg2⟩
      rw [nodes17] at hown
      obtain ⟨a2, cp2, rfl, hil⟩ := IlS.slot (w := w2) hown
      replace HG := hide (HG.out.gr hg2)
      replace hg := hg.trans hg2
      clear hown hg2
      go_wp2_with fail
      have hg3 := (Gr.refl w2).alloc (.cells #[.int .i64 15] 3)
      have h15 := ints_one w2 15
      replace hil := hil.gr hg3
      replace HG := hide (HG.out.gr hg3)
      replace hg := hg.trans hg3
      refine (ints_same _ _ 1 _ _ _ _ hil.sli h15.sli (by omega)).mono ?_
      rintro e w3 ⟨rfl, hd3⟩
      replace HG := hide (HG.out.dr hd3)
      replace hg := hg.trans hd3.gr
      clear hil h15 hg3 hd3
      go_wp2_with fail
      refine (bcross_any HG.out 15).mono ?_
      rintro e w4 ⟨⟨v4, rfl, hown⟩, hg4⟩
      rw [cross17] at hown
      obtain ⟨a4, cp4, rfl, hpl⟩ := PlS.of_own (w := w4) hown
      replace HG := hide (HG.out.gr hg4)
      replace hg := hg.trans hg4
      clear hown hg4
      go_wp2_with fail
      have hg5 := (Gr.refl w4).alloc (.cells #[.int .i64 16, .int .i64 1] 49)
      have hlit := PlS.lit (t := 49) 16 1 (rfl : w4.heap.size = w4.heap.size) (Gr.refl _)
      replace hpl := hpl.gr hg5
      replace HG := hide (HG.out.gr hg5)
      replace hg := hg.trans hg5
      refine (edges_same _ _ 1 _ _ _ _ hpl hlit).mono ?_
      rintro e w5 ⟨rfl, hd5⟩
      replace HG := hide (HG.out.dr hd5)
      replace hg := hg.trans hd5.gr
      clear hpl hlit hg5 hd5
      go_wp2_with fail
      have hrr := runs17
      refine (bruns_yes HG.out 0 1 (by decide) (by omega)).mono ?_
      rintro e w6 ⟨⟨v6, rfl, hown⟩, hg6⟩
      rw [show (((0 : Nat) : Int)) = 0 from rfl, show (((1 : Nat) : Int)) = 1 from rfl, hrr] at hown
      obtain ⟨a6, cp6, rfl, hpl⟩ := PlS.of_own (w := w6) hown
      replace hg := hg.trans hg6
      clear hown hg6 HG
      go_wp2_with fail
      have hg7 := (Gr.refl w6).alloc (.cells #[.int .i64 0, .int .i64 1] 53)
      have hlit := PlS.lit (t := 53) 0 1 (rfl : w6.heap.size = w6.heap.size) (Gr.refl _)
      replace hpl := hpl.gr hg7
      replace hg := hg.trans hg7
      refine (runs_same _ _ 1 _ _ _ _ hpl hlit).mono ?_
      rintro e w7 ⟨rfl, hd7⟩
      replace hg := hg.trans hd7.gr
      clear hpl hlit hg7 hd7
      go_wp2_with fail
      go_ret
      exact ⟨rfl, hg⟩
end Go.Proofs.Ytanihjgpdfploaa
