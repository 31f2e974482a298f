/- RingAll answers true at every input; nothing that was there is written. -/
import Derived.Test.YtjnoklfmdckidaaQTold
import Derived.Test.YtjnoklfmdckidaaQAllMath
namespace Go.Proofs.Ytjnoklfmdckidaa
open Go.RowKit
set_option maxRecDepth 20000

theorem info_bool7 : (Try.prog.info? 4).map (fun i => (i.zero, i.size, i.bytes)) = some (some (.bool false), 1, 1) := by kernel_rfl
/-- has the one of number j gone? -/
def metF (R : List Nat) (j : Nat) : Value := .bool (!decide (j ∈ R))
theorem met_next {R S : List Nat} {j : Nat} (h : ∀ i, i ∈ S ↔ i ∈ R ∧ i ≠ j) (i : Nat) : (if i = j then Value.bool true else metF R i) = metF S i := by
  unfold metF
  by_cases e : i = j
  · rw [if_pos e, decide_eq_false (fun hi => ((h i).1 hi).2 e)]
    rfl
  · rw [if_neg e]
    congr 2
    by_cases hi : i ∈ R
    · rw [decide_eq_true hi, decide_eq_true ((h i).2 ⟨hi, e⟩)]
    · rw [decide_eq_false hi, decide_eq_false (fun hs => hi ((h i).1 hs).1)]
theorem phi_succ (f : Int) (W : Nat → Int) (k : Nat) : (List.range k).map (phi f W) ++ [(f + W k, (k : Int))] = (List.range (k + 1)).map (phi f W) := by
  rw [List.range_succ, List.map_append]
  rfl

set_option maxHeartbeats 4000000 in
theorem ringAll_any (x : Int) (al : Option Addr) (n cap : Nat) (l : Nat → Int) (w : World) (h : SlI w al n l) (hn : n ≤ maxLen) :
    Calls Try.prog 4 #[.int .i64 x, .slice al n cap] w fun e w' => e = .returned (.bool true) ∧ Gr w w' := by
  unfold maxLen at hn
  have b1 := within_bd x 0 1073741824 (by omega)
  obtain ⟨f, hf⟩ : ∃ f, f = withinF x 0 1073741824 := ⟨_, rfl⟩
  have F := hide hf
  rw [← hf] at b1
  obtain ⟨W, hW⟩ : ∃ W : Nat → Int, ∀ j, W j = withinF (l j) 0 255 := ⟨fun j => withinF (l j) 0 255, fun _ => rfl⟩
  have hWb : ∀ j, 0 ≤ W j ∧ W j ≤ 255 := fun j => by rw [hW]; exact within_bd (l j) 0 255 (by omega)
  have HW := hide hW
  have HB := hide hWb
  clear hf hW hWb
  go_enter Try.func4, Try.ntmps4
  go_wp2_with fail
  refine (within_st _ _ _ _ (by omega) (by omega) (by omega)).mono ?_
  rintro e w1 ⟨rfl, rfl⟩
  rw [← F.out]
  go_wp2_with fail
  refine (mnew (Gr.refl w1) f (by omega) (by omega)).mono ?_
  rintro e w2 ⟨p, rfl, hM⟩
  go_wp2_with fail
  go_loopw [7, 8] (fun t i u => ∃ (k : Nat), (k ≤ 80 ∧ k ≤ n) ∧ i = .int .i64 k ∧ t = .int .i64 k ∧ Mine w1 u p f ((List.range k).map (phi f W))) (fun _ i _ => 80 - (intOf i).toNat)
  case atStart => exact ⟨0, ⟨by omega, by omega⟩, rfl, rfl, hM⟩
  case round =>
    clear hM
    obtain ⟨k, ⟨hk1, hk2⟩, rfl, rfl, hM⟩ := hrel
    by_cases hlt : k < n ∧ k < 80
    · obtain ⟨t1, t2⟩ := hlt
      obtain ⟨b, o, rfl, hb, hc⟩ := h.at (by omega)
      have hck := cell_gr (hc k t1) hM.g
      have hwk := HB.out k
      have HL : Hid (((List.range k).map (phi f W)).length ≤ 1000000) := hide (by simp; omega)
      have t3 : (k : Int) < (n : Int) := by omega
      have t4 : (k : Int) < 80 := by omega
      clear hc
      go_wp2_with fail
      refine (within_st _ _ _ _ (by omega) (by omega) (by omega)).mono ?_
      rintro e w5 ⟨rfl, rfl⟩
      rw [← HW.out]
      go_wp2_with fail
      refine (mput hM (f + W k) k (by omega) (by omega) HL.out (by omega)).mono ?_
      rw [phi_succ]
      clear hM hck
      rintro e w6 ⟨rfl, hM⟩
      go_wp2_with fail
      go_roundw
      case rel => exact ⟨k + 1, ⟨by omega, by omega⟩, by go_num, by go_num, hM⟩
      case measure => simp [intOf]; omega
    · by_cases t1 : k < n
      · have t3 : (k : Int) < (n : Int) := by omega
        have t4 : ¬ (k : Int) < 80 := by omega
        clear hlt
        have hmk := run_make_row' 40 4 (.bool false) 1 Try.underlying40 info_bool7 rfl .i64 .i64 k (by omega) (by omega)
        go_wp2_with fail
        have hg := (Gr.refl wr).alloc (.cells (madeCells #[.bool false] k) 4)
        have hrow := World.rowIs_made wr (.bool false) k 4
        obtain ⟨FP, hR, hFP, hG⟩ := hM
        have hne : ∀ q, FP q → q ≠ wr.heap.size := fun q hq => Nat.ne_of_lt (hR.lt q hq)
        replace hR := hR.gr hg
        have hG2 := hG.trans hg
        obtain ⟨g, hgd⟩ : ∃ g, g = wr.heap.size := ⟨_, rfl⟩
        obtain ⟨u0, hu0⟩ : ∃ u0, u0 = wr.alloc (.cells (madeCells #[.bool false] k) 4) := ⟨_, rfl⟩
        rw [← hgd] at hrow hne ⊢
        rw [← hu0] at hrow hR hG2 ⊢
        have hgb : w1.heap.size ≤ g := by rw [hgd]; exact Below.size hG
        clear hmk hg hG hgd hu0
        have hnk : k ≤ n := by omega
        have HRow : Hid (u0.rowIs g 4 k (metF (List.range k))) := hide (hrow.congr (fun i hi => by unfold metF; rw [decide_eq_true (List.mem_range.2 hi)]; rfl))
        have HRem := hide (Rem.start f W k (by omega) (fun j => (HB.out j).1))
        clear hrow
        go_wp2_with fail
        go_loopw [10, 11, 12] (fun ky it i u => ∃ (s : Nat) (a key item : Int) (R : List Nat), (s ≤ k ∧ R.length + s = k) ∧ i = .int .i64 s ∧ ky = .int .i64 key ∧ it = .int .i64 item ∧ (key ≤ a ∧ a ≤ 1073742079) ∧ Rem f W k R key item ∧ Rg u p FP a (R.map (phi f W)) ∧ u.rowIs g 4 k (metF R) ∧ Gr w1 u) (fun _ _ i _ => k - (intOf i).toNat)
        case atStart => exact ⟨0, f, -1, -1, List.range k, ⟨by omega, by simp⟩, rfl, rfl, rfl, ⟨by omega, by omega⟩, HRem.out, hR, HRow.out, hG2⟩
        case round =>
          clear HRow HRem hR hG2
          obtain ⟨s, a, key, item, R, ⟨hs, hRl⟩, rfl, rfl, rfl, ⟨hka, ha⟩, hRem, hR, hrow, hG2⟩ := hrel
          by_cases hsk : s < k
          · have t7 : (s : Int) < (k : Int) := by omega
            obtain ⟨m, k0, x0, hfm⟩ := exists_first (R.map (phi f W)) (by intro e; have := congrArg List.length e; simp at this; subst this; simp at hRl; omega)
            obtain ⟨j, hjR, hjk, rfl, rfl, hRem2, hiff, herase⟩ := hRem.next hfm
            have hnr := hR.near _ hfm.mem
            simp only at hnr
            have hwj := HB.out j
            have hord : Hid (f + W j = key → item < j) := hide (fun e => by have := hRem.ord j hjR; omega)
            obtain ⟨b, o, rfl, hb, hc⟩ := h.at (by omega)
            have HC := hide (hc j (by omega))
            have hmetj : Hid (metF R j = .bool false) := hide (by unfold metF; rw [decide_eq_true hjR]; rfl)
            have HIff := hide hiff
            have HRem2 := hide hRem2
            have HLen : Hid ((R.eraseIdx m).length + (s + 1) = k) := hide (by rw [List.length_eraseIdx, if_pos (by have := hfm.lt; simpa using this)]; have := hfm.lt; simp at this; omega)
            have HL : Hid ((R.map (phi f W)).length ≤ 1000000) := hide (by simp; omega)
            have hj1 : (j : Int) < (k : Int) := by omega
            have hj2 : (j : Int) < (n : Int) := by omega
            have hj3 : ¬ (k : Int) ≤ (j : Int) := by omega
            have hge : decide (f + W j < key) = false := by simp; omega
            clear hc hiff hRem2 hRem hjR hRl
            go_wp2_with fail
            refine (qpop_yes hR (by omega) hfm HL.out).mono ?_
            clear hR
            rintro e w7 ⟨rfl, hR, hk⟩
            rw [herase] at hR
            replace hrow := hk.row hrow (fun hq => hne g hq rfl)
            replace hG2 := hk.gr hG2 hFP
            clear hk
            have hmc := hrow.cell (i := j) hjk
            rw [hmetj.out] at hmc
            have hlc := cell_gr HC.out hG2
            have hmf := fun q => hrow.frozen q
            by_cases hkk : f + W j = key
            · have hit : decide ((j : Int) < item) = false := by have := hord.out hkk; simp; omega
              have hkb : (f + W j == key) = true := by rw [beq_iff_eq]; exact hkk
              clear hkk
              go_wp2_with fail
              refine (within_st _ _ _ _ (by omega) (by omega) (by omega)).mono ?_
              rintro e w8 ⟨rfl, rfl⟩
              rw [← HW.out]
              go_wp2_with fail
              refine (qat_any hR).mono ?_
              rintro e w9 ⟨rfl, rfl⟩
              go_wp2_with fail
              go_roundw
              case rel =>
                refine ⟨s + 1, f + W j, f + W j, j, R.eraseIdx m, ⟨by omega, HLen.out⟩, by go_num, rfl, rfl, ⟨Int.le_refl _, by omega⟩, HRem2.out, ?_, ?_, ?_⟩
                · exact hR.kp (Kp.set (S := fun q => q = g) (Kp.refl _ w9) (p := ⟨g, j, none⟩) (.inl rfl) _) (fun q hq e => hne q hq e)
                · exact (hrow.set j (.bool true)).congr (fun i hi => met_next HIff.out i)
                · exact hG2.set (p := ⟨g, j, none⟩) hgb _
              case measure => simp [intOf]; omega
            · have hkb : (f + W j == key) = false := by rw [beq_eq_false_iff_ne]; exact hkk
              clear hkk
              go_wp2_with fail
              refine (within_st _ _ _ _ (by omega) (by omega) (by omega)).mono ?_
              rintro e w8 ⟨rfl, rfl⟩
              rw [← HW.out]
              go_wp2_with fail
              refine (qat_any hR).mono ?_
              rintro e w9 ⟨rfl, rfl⟩
              go_wp2_with fail
              go_roundw
              case rel =>
                refine ⟨s + 1, f + W j, f + W j, j, R.eraseIdx m, ⟨by omega, HLen.out⟩, by go_num, rfl, rfl, ⟨Int.le_refl _, by omega⟩, HRem2.out, ?_, ?_, ?_⟩
                · exact hR.kp (Kp.set (S := fun q => q = g) (Kp.refl _ w9) (p := ⟨g, j, none⟩) (.inl rfl) _) (fun q hq e => hne q hq e)
                · exact (hrow.set j (.bool true)).congr (fun i hi => met_next HIff.out i)
                · exact hG2.set (p := ⟨g, j, none⟩) hgb _
              case measure => simp [intOf]; omega
          · have t7 : ¬ (s : Int) < (k : Int) := by omega
            have hnil : R = [] := List.eq_nil_of_length_eq_zero (by omega)
            subst hnil
            clear hRem hrow
            go_wp2_with fail
            refine (qpop_no hR).mono ?_
            rintro e w7 ⟨rfl, rfl⟩
            go_wp2_with fail
            refine (told7_any _).mono ?_
            rintro e w8 ⟨rfl, hg8⟩
            replace hR := hR.gr hg8
            replace hG2 := hG2.trans hg8
            clear hg8
            go_wp2_with fail
            refine (qlen_any hR).mono ?_
            rintro e w9 ⟨rfl, rfl⟩
            go_wp2_with fail
            go_ret
            exact ⟨rfl, hG2⟩
      · have t3 : ¬ (k : Int) < (n : Int) := by omega
        clear hlt
        have hmk := run_make_row' 40 4 (.bool false) 1 Try.underlying40 info_bool7 rfl .i64 .i64 k (by omega) (by omega)
        go_wp2_with fail
        have hg := (Gr.refl wr).alloc (.cells (madeCells #[.bool false] k) 4)
        have hrow := World.rowIs_made wr (.bool false) k 4
        obtain ⟨FP, hR, hFP, hG⟩ := hM
        have hne : ∀ q, FP q → q ≠ wr.heap.size := fun q hq => Nat.ne_of_lt (hR.lt q hq)
        replace hR := hR.gr hg
        have hG2 := hG.trans hg
        obtain ⟨g, hgd⟩ : ∃ g, g = wr.heap.size := ⟨_, rfl⟩
        obtain ⟨u0, hu0⟩ : ∃ u0, u0 = wr.alloc (.cells (madeCells #[.bool false] k) 4) := ⟨_, rfl⟩
        rw [← hgd] at hrow hne ⊢
        rw [← hu0] at hrow hR hG2 ⊢
        have hgb : w1.heap.size ≤ g := by rw [hgd]; exact Below.size hG
        clear hmk hg hG hgd hu0
        have hnk : k ≤ n := by omega
        have HRow : Hid (u0.rowIs g 4 k (metF (List.range k))) := hide (hrow.congr (fun i hi => by unfold metF; rw [decide_eq_true (List.mem_range.2 hi)]; rfl))
        have HRem := hide (Rem.start f W k (by omega) (fun j => (HB.out j).1))
        clear hrow
        go_wp2_with fail
        go_loopw [10, 11, 12] (fun ky it i u => ∃ (s : Nat) (a key item : Int) (R : List Nat), (s ≤ k ∧ R.length + s = k) ∧ i = .int .i64 s ∧ ky = .int .i64 key ∧ it = .int .i64 item ∧ (key ≤ a ∧ a ≤ 1073742079) ∧ Rem f W k R key item ∧ Rg u p FP a (R.map (phi f W)) ∧ u.rowIs g 4 k (metF R) ∧ Gr w1 u) (fun _ _ i _ => k - (intOf i).toNat)
        case atStart => exact ⟨0, f, -1, -1, List.range k, ⟨by omega, by simp⟩, rfl, rfl, rfl, ⟨by omega, by omega⟩, HRem.out, hR, HRow.out, hG2⟩
        case round =>
          clear HRow HRem hR hG2
          obtain ⟨s, a, key, item, R, ⟨hs, hRl⟩, rfl, rfl, rfl, ⟨hka, ha⟩, hRem, hR, hrow, hG2⟩ := hrel
          by_cases hsk : s < k
          · have t7 : (s : Int) < (k : Int) := by omega
            obtain ⟨m, k0, x0, hfm⟩ := exists_first (R.map (phi f W)) (by intro e; have := congrArg List.length e; simp at this; subst this; simp at hRl; omega)
            obtain ⟨j, hjR, hjk, rfl, rfl, hRem2, hiff, herase⟩ := hRem.next hfm
            have hnr := hR.near _ hfm.mem
            simp only at hnr
            have hwj := HB.out j
            have hord : Hid (f + W j = key → item < j) := hide (fun e => by have := hRem.ord j hjR; omega)
            obtain ⟨b, o, rfl, hb, hc⟩ := h.at (by omega)
            have HC := hide (hc j (by omega))
            have hmetj : Hid (metF R j = .bool false) := hide (by unfold metF; rw [decide_eq_true hjR]; rfl)
            have HIff := hide hiff
            have HRem2 := hide hRem2
            have HLen : Hid ((R.eraseIdx m).length + (s + 1) = k) := hide (by rw [List.length_eraseIdx, if_pos (by have := hfm.lt; simpa using this)]; have := hfm.lt; simp at this; omega)
            have HL : Hid ((R.map (phi f W)).length ≤ 1000000) := hide (by simp; omega)
            have hj1 : (j : Int) < (k : Int) := by omega
            have hj2 : (j : Int) < (n : Int) := by omega
            have hj3 : ¬ (k : Int) ≤ (j : Int) := by omega
            have hge : decide (f + W j < key) = false := by simp; omega
            clear hc hiff hRem2 hRem hjR hRl
            go_wp2_with fail
            refine (qpop_yes hR (by omega) hfm HL.out).mono ?_
            clear hR
            rintro e w7 ⟨rfl, hR, hk⟩
            rw [herase] at hR
            replace hrow := hk.row hrow (fun hq => hne g hq rfl)
            replace hG2 := hk.gr hG2 hFP
            clear hk
            have hmc := hrow.cell (i := j) hjk
            rw [hmetj.out] at hmc
            have hlc := cell_gr HC.out hG2
            have hmf := fun q => hrow.frozen q
            by_cases hkk : f + W j = key
            · have hit : decide ((j : Int) < item) = false := by have := hord.out hkk; simp; omega
              have hkb : (f + W j == key) = true := by rw [beq_iff_eq]; exact hkk
              clear hkk
              go_wp2_with fail
              refine (within_st _ _ _ _ (by omega) (by omega) (by omega)).mono ?_
              rintro e w8 ⟨rfl, rfl⟩
              rw [← HW.out]
              go_wp2_with fail
              refine (qat_any hR).mono ?_
              rintro e w9 ⟨rfl, rfl⟩
              go_wp2_with fail
              go_roundw
              case rel =>
                refine ⟨s + 1, f + W j, f + W j, j, R.eraseIdx m, ⟨by omega, HLen.out⟩, by go_num, rfl, rfl, ⟨Int.le_refl _, by omega⟩, HRem2.out, ?_, ?_, ?_⟩
                · exact hR.kp (Kp.set (S := fun q => q = g) (Kp.refl _ w9) (p := ⟨g, j, none⟩) (.inl rfl) _) (fun q hq e => hne q hq e)
                · exact (hrow.set j (.bool true)).congr (fun i hi => met_next HIff.out i)
                · exact hG2.set (p := ⟨g, j, none⟩) hgb _
              case measure => simp [intOf]; omega
            · have hkb : (f + W j == key) = false := by rw [beq_eq_false_iff_ne]; exact hkk
              clear hkk
              go_wp2_with fail
              refine (within_st _ _ _ _ (by omega) (by omega) (by omega)).mono ?_
              rintro e w8 ⟨rfl, rfl⟩
              rw [← HW.out]
              go_wp2_with fail
              refine (qat_any hR).mono ?_
              rintro e w9 ⟨rfl, rfl⟩
              go_wp2_with fail
              go_roundw
              case rel =>
                refine ⟨s + 1, f + W j, f + W j, j, R.eraseIdx m, ⟨by omega, HLen.out⟩, by go_num, rfl, rfl, ⟨Int.le_refl _, by omega⟩, HRem2.out, ?_, ?_, ?_⟩
                · exact hR.kp (Kp.set (S := fun q => q = g) (Kp.refl _ w9) (p := ⟨g, j, none⟩) (.inl rfl) _) (fun q hq e => hne q hq e)
                · exact (hrow.set j (.bool true)).congr (fun i hi => met_next HIff.out i)
                · exact hG2.set (p := ⟨g, j, none⟩) hgb _
              case measure => simp [intOf]; omega
          · have t7 : ¬ (s : Int) < (k : Int) := by omega
            have hnil : R = [] := List.eq_nil_of_length_eq_zero (by omega)
            subst hnil
            clear hRem hrow
            go_wp2_with fail
            refine (qpop_no hR).mono ?_
            rintro e w7 ⟨rfl, rfl⟩
            go_wp2_with fail
            refine (told7_any _).mono ?_
            rintro e w8 ⟨rfl, hg8⟩
            replace hR := hR.gr hg8
            replace hG2 := hG2.trans hg8
            clear hg8
            go_wp2_with fail
            refine (qlen_any hR).mono ?_
            rintro e w9 ⟨rfl, rfl⟩
            go_wp2_with fail
            go_ret
            exact ⟨rfl, hG2⟩
end Go.Proofs.Ytjnoklfmdckidaa
