/- What the document's Cells and Nodes make: rows of their own, the same lists; nothing that was there is written. -/
import Derived.Test.YtgbadbkipaccgaaGreatBRuns11
namespace Go.Proofs.YtgbadbkipaccgaaGreat
open Go.RowKit
set_option maxRecDepth 20000

/-- whether there is somebody over one of the first k sides -/
def brdK (W H c : Int) : Nat → Bool
  | 0 => false
  | k + 1 => brdK W H c k || decide (0 ≤ overF W H c k)
theorem brdK_four (W H c : Int) : brdK W H c 4 = brdB W H c := rfl

set_option maxHeartbeats 1500000 in
theorem rcells_no (W H s : Int) (w : World) (hs : isSectorB W H s = false) :
    Calls Tryz.prog 42 #[.int .i64 W, .int .i64 H, .int .i64 s] w fun e w' => (∃ v, e = .returned v ∧ w'.ownsRow w.heap.size 3 1 v (cellsL W H s).length (flatN (cellsL W H s))) ∧ Gr w w' := by
  have E : Hid (cellsL W H s = []) := hide (by unfold cellsL; rw [if_neg (by simp [hs])])
  rw [E.out]
  go_enter Tryz.func42, Tryz.ntmps42
  go_wp2_with (go_at_call 69; refine (rsize_no _ _ _ _ hs).mono ?_; rintro e w' ⟨rfl, hd⟩)
  go_loopw [7, 10] (fun v i u => v = .slice none 0 0 ∧ i = .int .i64 0 ∧ Dr w u) (fun _ _ _ => 0)
  case atStart => exact ⟨rfl, rfl, by repeat (first | exact Dr.refl _ | assumption | refine Dr.add ?_ | refine Dr.trans ?_ (by assumption))⟩
  case round =>
    obtain ⟨rfl, rfl, hd⟩ := hrel
    go_wp2
    go_ret
    exact ⟨⟨_, rfl, ints_nil _ _⟩, hd.gr⟩

set_option maxHeartbeats 4000000 in
theorem rcells_yes (W H : Int) (s : Nat) (w : World) (hs : isSectorB W H s = true) :
    Calls Tryz.prog 42 #[.int .i64 W, .int .i64 H, .int .i64 s] w fun e w' => (∃ v, e = .returned v ∧ w'.ownsRow w.heap.size 3 1 v (cellsL W H s).length (flatN (cellsL W H s))) ∧ Gr w w' := by
  obtain ⟨i0, hi, hz0, hz1, hz2⟩ := info_parts info_int
  have E : Hid (cellsL W H s = cellsK W H s (tnF W H s)) := hide (by unfold cellsL; rw [if_pos hs, Int.toNat_natCast])
  rw [E.out]
  obtain ⟨t1, t2, t3⟩ := tnF_eq hs
  have HS := hide (fun u => rsize_yes W H s u hs)
  have HG := hide (fun (k : Nat) (hk : k < tnF W H s) u => rglobal_yes W H s k u hs (by omega) (by omega))
  have HE := hide (fun (k : Nat) (hk : k < tnF W H s) => (gcF_eq hs hk).1)
  clear E
  generalize tnF W H s = T at *
  generalize twF W s = tw at *
  generalize thF W H s = th at *
  have b1 : 0 ≤ tw * th := by omega
  have b2 : tw * th ≤ 256 := by omega
  have HT := hide t1
  clear t1 hs
  go_enter Tryz.func42, Tryz.ntmps42
  go_wp2_with (go_at_call 69; refine (HS.out _).mono ?_; rintro e w' ⟨rfl, hd⟩)
  go_loopw [7, 10] (fun v i u => ∃ k : Nat, k ≤ T ∧ i = .int .i64 k ∧ u.ownsRow w.heap.size 3 1 v (cellsK W H s k).length (flatN (cellsK W H s k)) ∧ Gr w u) (fun _ i _ => T - (intOf i).toNat)
  case atStart => exact ⟨0, Nat.zero_le _, rfl, ints_nil _ _, (by repeat (first | exact Gr.refl _ | assumption | exact Dr.gr (by assumption) | refine Gr.alloc ?_ _ | refine Gr.drewN ?_ _ | refine Gr.drew ?_ | refine Gr.trans ?_ (by assumption) | refine Gr.trans ?_ (Dr.gr (by assumption))))⟩
  case round =>
    obtain ⟨k, hk, rfl, hown, hgr⟩ := hrel
    by_cases hlt : k < T
    · have hkI : (k : Int) < tw * th := by have := HT.out; omega
      have HO := hide hown
      have HR := hide hgr
      have cl := cellsK_len W H s k
      obtain ⟨g, hg⟩ : ∃ g, gcF W s k = g := ⟨_, rfl⟩
      have HE2 : Hid (globalF W s k = (g : Int)) := hide (by rw [← hg]; exact (HE.out k hlt).symm)
      have HY : Hid (brdB W H (g : Int) = true → cellsK W H s (k + 1) = cellsK W H s k ++ [g]) := hide (fun hb => by rw [← hg]; exact cellsK_yes (by rw [hg]; exact hb))
      have HN : Hid (brdB W H (g : Int) = false → cellsK W H s (k + 1) = cellsK W H s k) := hide (fun hb => cellsK_no (by rw [hg]; exact hb))
      clear hown hgr hg
      go_wp2_with (go_at_call 70; refine (HG.out k hlt _).mono ?_; rintro e w1 ⟨rfl, hd1⟩; rw [HE2.out])
      go_loopw [12, 13] (fun b i u => ∃ j : Nat, j ≤ 4 ∧ i = .int .i64 j ∧ b = .bool (brdK W H g j) ∧ Dr w1 u) (fun _ i _ => 4 - (intOf i).toNat)
      case atStart => exact ⟨0, by omega, rfl, rfl, Dr.refl _⟩
      case round =>
        obtain ⟨j, hj, rfl, rfl, hd2⟩ := hrel
        by_cases h4 : j < 4
        · have j3 : (j : Int) ≤ 3 := by omega
          cases hb : brdK W H g j
          · by_cases he : 0 ≤ overF W H g j
            · have HB : Hid (brdK W H g (j + 1) = true) := hide (by unfold brdK; simp [he])
              clear hb
              go_wp2_with (go_at_call 49; refine (rover_any _ _ _ _ _).mono ?_; rintro e w3 ⟨rfl, hd3⟩)
              go_roundw
              case rel => exact ⟨j + 1, by omega, by go_num, by rw [HB.out], hd2.trans hd3⟩
              case measure => simp [intOf]; omega
            · have HB : Hid (brdK W H g (j + 1) = false) := hide (by unfold brdK; simp [he, hb])
              clear hb
              go_wp2_with (go_at_call 49; refine (rover_any _ _ _ _ _).mono ?_; rintro e w3 ⟨rfl, hd3⟩)
              go_roundw
              case rel => exact ⟨j + 1, by omega, by go_num, by rw [HB.out]; simp [he], hd2.trans hd3⟩
              case measure => simp [intOf]; omega
          · have HB : Hid (brdK W H g (j + 1) = true) := hide (by unfold brdK; simp [hb])
            clear hb
            go_wp2
            go_roundw
            case rel => exact ⟨j + 1, by omega, by go_num, by rw [HB.out], hd2⟩
            case measure => simp [intOf]; omega
        · have hj4 : j = 4 := by omega
          subst hj4
          have hg2 := hd1.gr.trans hd2.gr
          have HO2 := hide (own_grI HO.out hg2)
          have HR2 := hide (HR.out.trans hg2)
          rw [brdK_four]
          cases hb : brdB W H (g : Int)
          · have HC := hide (HN.out hb)
            go_wp2
            go_roundw
            case rel => exact ⟨k + 1, by omega, by go_num, by rw [HC.out]; exact HO2.out, HR2.out⟩
            case measure => simp [intOf]; omega
          · have HC := hide (HY.out hb)
            go_wp2_with (at_builtin; refine wpList_append_own _ rfl _ _ 31 rfl w.heap.size 3 i0 (.int .i64 0) 1 8 Tryz.underlying31 hi hz0 hz1 hz2 rfl (by decide) _ _ _ rfl (own_grI HO2.out ((Gr.refl _).alloc _)) ⟨wr.heap.size, 0, none⟩ 1 1 [.int .i64 g] rfl rfl (alloc_one _ _ _) (by simp [Value.oneCell']) (by unfold maxLen; omega) (by omega) (by have := HR2.out.size; simp only [World.size_alloc]; omega) ?_; intro v' w3 hown' hgrow hnil)
            go_roundw
            case rel => exact ⟨k + 1, by omega, by go_num, by rw [HC.out, List.length_append, flatN_app]; exact hown', Gr.grown (HR2.out.alloc _) hgrow (fun q e => (HO2.out.lt q e).1)⟩
            case measure => simp [intOf]; omega
    · have hkn : k = T := by omega
      have hkI : ¬ (k : Int) < tw * th := by have := HT.out; omega
      subst hkn
      go_wp2
      go_ret
      exact ⟨⟨_, rfl, hown⟩, hgr⟩

theorem rcells_any (W H s : Int) (w : World) :
    Calls Tryz.prog 42 #[.int .i64 W, .int .i64 H, .int .i64 s] w fun e w' => (∃ v, e = .returned v ∧ w'.ownsRow w.heap.size 3 1 v (cellsL W H s).length (flatN (cellsL W H s))) ∧ Gr w w' := by
  cases hs : isSectorB W H s
  · exact rcells_no W H s w hs
  · obtain ⟨z, rfl⟩ : ∃ z : Nat, s = z := ⟨s.toNat, by have := ((isSectorB_iff _ _ _).1 hs).2.1; omega⟩
    exact rcells_yes W H z w hs
end Go.Proofs.YtgbadbkipaccgaaGreat
