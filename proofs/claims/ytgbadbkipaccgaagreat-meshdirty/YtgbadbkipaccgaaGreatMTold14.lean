/- The statements' example of layer 14; what is none does nothing. No condition. -/
import Derived.Test.YtgbadbkipaccgaaGreatMDuo14
namespace Go.Proofs.YtgbadbkipaccgaaGreat
open Go.RowKit
set_option maxRecDepth 20000

theorem mk17 (w : World) : (Instr.makeSlice 22 (.int .i64 17) (.int .i64 17)).run Tryz.prog w = .ok (.slice (some ⟨w.heap.size, 0, none⟩) 17 17) (w.alloc (.cells (madeCells #[.int .u8 0] 17) 5)) := by
  obtain ⟨i0, hi, hz0, hz1, hz2⟩ := info_parts info_u8
  have hr := run_make (P := Tryz.prog) w 22 5 i0 (.int .u8 0) Tryz.underlying22 hi hz0 .i64 .i64 17 17 (by omega) (by omega) (by rw [hz2]; omega) (by omega)
  simp only [hz1, Nat.mul_one] at hr
  exact hr
def gOne (_ : Nat) : Int := 1
theorem mayG17 : mayM 17 1 17 gOne = true := (mayM_iff _ _ _ _).2 ⟨by decide, by decide, fun i _ => by unfold gOne; omega⟩
theorem cnt17 : cntS 17 1 = 2 := by decide
def v1F (_ : Nat) : Int := 1
def v0F (_ : Nat) : Int := 0
theorem dir17a : dirL v0F v1F 2 = [0, 1] := by decide
theorem dir17b : dirL v1F v1F 2 = [] := by decide
theorem dir17c : dirL v1F (putF v1F (sectorF 17 ((3 : Nat) : Int)).toNat (1 + 1)) 2 = [0] := by decide +kernel
theorem nodes17b : nodesL 17 1 17 gOne 1 = [16] := by decide +kernel

set_option maxHeartbeats 4000000 in
theorem told14_any (w : World) : Calls Tryz.prog 22 #[] w fun e w' => e = .returned (.bool true) ∧ Gr w w' := by
  have hmk := mk17 w
  have hR := Row.of_is (World.rowIs_made w (.int .u8 0) 17 5)
  have hB := tri_alloc (w.alloc (.cells (madeCells #[.int .u8 0] 17) 5)) (.int .i64 17) (.int .i64 1) (.slice (some ⟨w.heap.size, 0, none⟩) 17 17) 24
  have hR2 := hR.gr ((Gr.refl _).alloc (.cells #[.int .i64 17, .int .i64 1, .slice (some ⟨w.heap.size, 0, none⟩) 17 17] 24))
  have hG := ((Gr.refl w).alloc (.cells (madeCells #[.int .u8 0] 17) 5)).alloc (.cells #[.int .i64 17, .int .i64 1, .slice (some ⟨w.heap.size, 0, none⟩) 17 17] 24)
  rw [World.size_alloc] at hB
  clear hR
  go_enter Tryz.func22, Tryz.ntmps22
  go_wp2_with fail
  go_loopw [2] (fun i z => ∃ k : Nat, k ≤ 17 ∧ i = .int .i64 k ∧ Row z w.heap.size 5 .u8 17 (fun j => if j < k then 1 else 0) ∧ z.rowIs (w.heap.size + 1) 24 3 (tri (.int .i64 17) (.int .i64 1) (.slice (some ⟨w.heap.size, 0, none⟩) 17 17)) ∧ Gr w z) (fun i _ => 17 - (intOf i).toNat)
  case atStart => exact ⟨0, by omega, rfl, hR2.congr fun i _ => by simp, hB, hG⟩
  case round =>
    clear hR2 hB hG hmk
    obtain ⟨k, hk, rfl, hr, hb, hg⟩ := hrel
    obtain ⟨c1, c2, c3, -, -, -⟩ := row_cells hb
    by_cases hlt : k < 17
    · have hkI : (k : Int) < 17 := by omega
      have hk0 : 0 ≤ (k : Int) := by omega
      have d0 := hr.cell hlt
      have f0 := hr.frozen k
      have h1 := (hr.set k 1).congr (g := fun j => if j < k + 1 then 1 else 0) fun i hi => by
        by_cases e : i = k
        · rw [if_pos e, if_pos (by omega)]
        · rw [if_neg e]
          by_cases e2 : i < k
          · rw [if_pos e2, if_pos (by omega)]
          · rw [if_neg e2, if_neg (by omega)]
      have h2 : (wr.setCell ⟨w.heap.size, k, none⟩ (.int .u8 1)).rowIs (w.heap.size + 1) 24 3 (tri (.int .i64 17) (.int .i64 1) (.slice (some ⟨w.heap.size, 0, none⟩) 17 17)) := hb.setOther (a := ⟨w.heap.size, k, none⟩) (by show w.heap.size + 1 ≠ w.heap.size; omega) _
      have h3 := hg.set (p := ⟨w.heap.size, k, none⟩) (by exact Nat.le_refl _) (.int .u8 1)
      clear hr hb hg
      go_wp2_with fail
      go_roundw
      case rel => exact ⟨k + 1, by omega, by go_num, h1, h2, h3⟩
      case measure => simp [intOf]; omega
    · have hkI : ¬ (k : Int) < 17 := by omega
      have hsl := (hr.congr (g := gOne) fun i hi => by rw [if_pos (by omega)]; rfl).sl fun i _ => by unfold gOne; omega
      clear hr
      go_wp2_with fail
      refine (gnew_yes 17 1 _ 17 17 gOne 0 wr hsl mayG17 (by omega)).mono ?_
      rintro e w1 ⟨⟨gp, c, v, cc, rfl, hgd, hge⟩, hg1⟩
      have s1 := hg.size
      replace hg := hg.trans hg1
      have HN := hide (duo_new hgd hg (by omega) (fun s _ => by omega) (by omega))
      clear hgd hg1 hsl c1 c2 c3 hb hge s1 hg
      go_wp2_with fail
      refine HN.out.mono ?_
      rintro e w2 ⟨⟨p, q, B, rfl, hD⟩, -⟩
      have HD := hide hD
      clear hD HN
      go_wp2_with fail
      refine (mdirty_any HD.out.ms HD.out.gd).mono ?_
      rintro e w3 ⟨⟨v3, rfl, hown⟩, hg3⟩
      have e1 : dirL (fun _ => 0) (fun _ => (0 : Int) + 1) (cntS 17 1) = [0, 1] := dir17a
      rw [e1] at hown
      obtain ⟨a3, c3, rfl, hil⟩ := IlS.slot (w := w3) hown
      have HD3 := hide (HD.out.more hg3)
      clear hown hg3 HD hil
      go_wp2_with fail
      refine (duo_rebuild HD3.out (by omega)).mono ?_
      rintro e w4 ⟨rfl, hD, -⟩
      rw [e1] at hD ⊢
      have HD4 := hide hD
      clear hD HD3 e1
      go_wp2_with fail
      refine (duo_rebuild HD4.out (by simp)).mono ?_
      rintro e w5 ⟨rfl, hD, -⟩
      have e2 : dirL (fun _ => (0 : Int) + 1) (fun _ => (0 : Int) + 1) (cntS 17 1) = [] := dir17b
      rw [e2] at hD ⊢
      have HD5 := hide hD
      clear hD HD4 e2
      go_wp2_with fail
      refine (duo_edit HD5.out 3 2 (by omega) (by omega) (by omega)).mono ?_
      rintro e w6 ⟨rfl, hD, -⟩
      have HD6 := hide hD
      clear hD HD5
      go_wp2_with fail
      refine (mdirty_any HD6.out.ms HD6.out.gd).mono ?_
      rintro e w7 ⟨⟨v7, rfl, hown⟩, hg7⟩
      have e3 : dirL (fun _ => (0 : Int) + 1) (putF (fun _ => (0 : Int) + 1) (sectorF 17 ((3 : Nat) : Int)).toNat (0 + 1 + 1)) (cntS 17 1) = [0] := dir17c
      rw [e3] at hown
      obtain ⟨a7, c7, rfl, hil⟩ := IlS.slot (w := w7) hown
      have HD7 := hide (HD6.out.more hg7)
      clear hown hg7 HD6 e3
      go_wp2_with fail
      have hg8 := (Gr.refl w7).alloc (.cells #[.int .i64 0] 3)
      have h0 := ints_one w7 0
      replace hil := hil.gr hg8
      have HD8 := hide (HD7.out.more hg8)
      refine (ints_same _ _ 1 _ _ _ _ hil.sli h0.sli (by omega)).mono ?_
      rintro e w8 ⟨rfl, hd8⟩
      have HD9 := hide (HD8.out.more hd8.gr)
      clear hil h0 hg8 hd8 HD7 HD8
      go_wp2_with fail
      refine (mnodes_any HD9.out.ms 1).mono ?_
      rintro e w9 ⟨⟨v9, rfl, hown⟩, hg9⟩
      rw [nodes17b] at hown
      obtain ⟨a9, c9, rfl, hil⟩ := IlS.slot (w := w9) hown
      have HD10 := hide (HD9.out.more hg9)
      clear hown hg9 HD9
      go_wp2_with fail
      have hg10 := (Gr.refl w9).alloc (.cells #[.int .i64 16] 3)
      have h16 := ints_one w9 16
      replace hil := hil.gr hg10
      have HD11 := hide (HD10.out.more hg10)
      refine (ints_same _ _ 1 _ _ _ _ hil.sli h16.sli (by omega)).mono ?_
      rintro e w10 ⟨rfl, hd10⟩
      have hgf := (HD11.out.more hd10.gr).gr
      clear hil h16 hg10 hd10 HD11 HD10
      go_wp2_with fail
      go_ret
      exact ⟨rfl, hgf⟩

theorem meshNone_any (a b : Int) (w : World) : Calls Tryz.prog 7 #[.int .i64 a, .int .i64 b] w fun e w' => e = .returned (.bool true) ∧ Gr w w' := by
  go_enter Tryz.func7, Tryz.ntmps7
  go_wp2_with (first | (go_at_call 22; refine (told14_any _).mono ?_; rintro e w1 ⟨rfl, hg1⟩) | (go_at_call 28; refine (new_nil _).mono ?_; rintro e w2 ⟨rfl, hg2⟩) | (go_at_call 16; refine (dirty_nil _).mono ?_; rintro e w3 ⟨rfl, hg3⟩) | (go_at_call 15; refine (rebuild_nil _).mono ?_; rintro e w4 ⟨rfl, hg4⟩) | (go_at_call 14; refine (count_nil _).mono ?_; rintro e w5 ⟨rfl, hg5⟩) | (go_at_call 11; refine (nodes_nil _ _).mono ?_; rintro e w6 ⟨rfl, hg6⟩) | (go_at_call 13; refine (dist_nil _ _ _).mono ?_; rintro e w7 ⟨rfl, hg7⟩) | (go_at_call 12; refine (into_nil _ _).mono ?_; rintro e w8 ⟨rfl, hg8⟩))
  go_ret
  exact ⟨rfl, (((((((hg1.trans hg2).trans hg3).trans hg4).trans hg5).trans hg6).trans hg7).trans hg8)⟩
end Go.Proofs.YtgbadbkipaccgaaGreat
