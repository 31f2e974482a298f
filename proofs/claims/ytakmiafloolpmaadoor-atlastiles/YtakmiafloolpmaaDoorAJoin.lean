/- What atlas.cover and Join answer, of tiles in memory. -/
import Derived.Test.YtakmiafloolpmaaDoorATls
namespace Go.Proofs.YtakmiafloolpmaaDoor
open Go.RowKit
set_option maxRecDepth 20000

/-- tile s is such as sector s asks -/
def fitT (W H : Int) (t : Ti) (s : Nat) : Bool := mayTB t.W t.H t.n t.f && decide (t.W = twF W s) && decide (t.H = thF W H s)
/-- the tiles cover the map -/
def coverB (W H : Int) (n : Nat) (t : Nat → Ti) : Bool := decide (n = cntS W H) && decide (∀ s, s < n → fitT W H (t s) s = true)
theorem fitT_iff (W H : Int) (t : Ti) (s : Nat) : fitT W H t s = true ↔ mayTB t.W t.H t.n t.f = true ∧ t.W = twF W s ∧ t.H = thF W H s := by simp [fitT, and_assoc]
theorem cover_iff (W H : Int) (n : Nat) (t : Nat → Ti) : coverB W H n t = true ↔ n = cntS W H ∧ ∀ s, s < n → fitT W H (t s) s = true := by simp [coverB]
theorem cover_no {W H : Int} {n : Nat} {t : Nat → Ti} {s : Nat} (hs : s < n) (h : fitT W H (t s) s = false) : coverB W H n t = false := by
  cases hc : coverB W H n t
  · rfl
  · have := ((cover_iff _ _ _ _).1 hc).2 s hs
    rw [h] at this
    cases this

set_option maxHeartbeats 4000000 in
theorem cover_any (W H : Int) (a : Option Addr) (n cap : Nat) (t : Nat → Ti) (w : World) (h : TSl w a n t) (hn : n ≤ 100000) (hm : mayB W H = true) :
    Calls Tryd.prog 47 #[.int .i64 W, .int .i64 H, .slice a n cap] w fun e w' => e = .returned (.bool (coverB W H n t)) ∧ Gr w w' := by
  have hci := cntS_int W H
  have hcn := cntS_eq hm
  have HCI := hide hci
  by_cases hnc : n = cntS W H
  · have hne : ((n : Int) != (cntS W H : Int)) = false := by simp [hnc]
    obtain ⟨b, o, rfl, hB, hcell⟩ : ∃ b o, a = some ⟨b, o, none⟩ ∧ b < w.heap.size ∧ ∀ i, i < n → w.cell? ⟨b, o + i * 3, none⟩ = some (.int .i64 (t i).W) ∧ w.cell? ⟨b, o + i * 3 + 1, none⟩ = some (.int .i64 (t i).H) ∧ w.cell? ⟨b, o + i * 3 + 2, none⟩ = some (.slice (t i).a (t i).n (t i).c) := by
      rcases h.has with h0 | h1
      · omega
      · exact h1
    have HCE := hide hcell
    have HNC := hide hnc
    have HS := hide (fun (s : Nat) (u : World) (hs : s < n) => size_yes W H s u (sec_of (by omega)))
    clear hcell hnc hci hcn
    go_enter Tryd.func47, Tryd.ntmps47
    go_wp2_with (go_at_call 31; refine (asectors_any _ _ _).mono ?_; rintro e w1 ⟨rfl, hg1⟩; rw [← HCI.out])
    clear hne
    go_loopw [19] (fun i u => ∃ (s : Nat), s ≤ n ∧ i = .int .i64 s ∧ (∀ j, j < s → fitT W H (t j) j = true) ∧ Gr w u) (fun i _ => n - (intOf i).toNat)
    case atStart => exact ⟨0, Nat.zero_le _, rfl, fun _ hj => absurd hj (Nat.not_lt_zero _), hg1⟩
    case round =>
      obtain ⟨s, hs, rfl, hall, hgr⟩ := hrel
      have HAL := hide hall
      clear hall hg1
      by_cases hlt : s < n
      · obtain ⟨k1, k2, k3⟩ := HCE.out s hlt
        replace k1 := cell_gr k1 hgr
        replace k2 := cell_gr k2 hgr
        replace k3 := cell_gr k3 hgr
        obtain ⟨hsl, hc1, hc2⟩ := h.sl s hlt
        have HSL := hide (hsl.gr hgr)
        have HSY := hide (fun u => HS.out s u hlt)
        obtain ⟨tt, htt⟩ : ∃ tt, t s = tt := ⟨_, rfl⟩
        rw [htt] at k1 k2 k3 HSL
        have HTT := hide htt
        obtain ⟨TW, TH, ta, tn, tc, tf⟩ := tt
        simp only at k1 k2 k3 HSL
        have hT9 := tri_alloc wr (.int .i64 TW) (.int .i64 TH) (.slice ta tn tc) 31
        have hG9 : Gr wr (wr.alloc (.cells #[.int .i64 TW, .int .i64 TH, .slice ta tn tc] 31)) := (Gr.refl wr).alloc _
        clear hsl htt
        cases hf : fitT W H (t s) s
        · have HF := hide (cover_no (t := t) hlt hf)
          rw [HTT.out] at hf
          by_cases hm1 : mayTB TW TH tn tf = true
          · by_cases hm2 : TW = twF W s
            · have hm3 : ¬ TH = thF W H s := fun e => by
                have := (fitT_iff W H ⟨TW, TH, ta, tn, tc, tf⟩ s).2 ⟨hm1, hm2, e⟩
                rw [hf] at this
                cases this
              have d2 : (TW != twF W s) = false := by simp [hm2]
              have d3 : (TH != thF W H s) = true := by simp [hm3]
              clear hf hm2 hm3
              go_wp2_with (first | (go_at_call 52; refine (HSY.out _).mono ?_; rintro e w3 ⟨rfl, hd3⟩; have hg3 := Dr.gr hd3; clear hd3; obtain ⟨x1, x2, x3, -, -, -⟩ := row_cells (row_gr hT9 hg3)) | (go_at_call 58; refine (tmay_any _ _ _ _ _ tf _ (HSL.out.gr (hG9.trans hg3))).mono ?_; rintro e w4 ⟨rfl, hg4⟩; rw [hm1]; replace x1 := cell_gr x1 hg4; replace x2 := cell_gr x2 hg4; replace x3 := cell_gr x3 hg4))
              go_ret
              exact ⟨ret_bool HF.out.symm, hgr.trans (hG9.trans (hg3.trans hg4))⟩
            · have d2 : (TW != twF W s) = true := by simp [hm2]
              clear hf hm2
              go_wp2_with (first | (go_at_call 52; refine (HSY.out _).mono ?_; rintro e w3 ⟨rfl, hd3⟩; have hg3 := Dr.gr hd3; clear hd3; obtain ⟨x1, x2, x3, -, -, -⟩ := row_cells (row_gr hT9 hg3)) | (go_at_call 58; refine (tmay_any _ _ _ _ _ tf _ (HSL.out.gr (hG9.trans hg3))).mono ?_; rintro e w4 ⟨rfl, hg4⟩; rw [hm1]; replace x1 := cell_gr x1 hg4; replace x2 := cell_gr x2 hg4; replace x3 := cell_gr x3 hg4))
              go_ret
              exact ⟨ret_bool HF.out.symm, hgr.trans (hG9.trans (hg3.trans hg4))⟩
          · have hm1' : mayTB TW TH tn tf = false := by simpa using hm1
            clear hf hm1
            go_wp2_with (first | (go_at_call 52; refine (HSY.out _).mono ?_; rintro e w3 ⟨rfl, hd3⟩; have hg3 := Dr.gr hd3; clear hd3; obtain ⟨x1, x2, x3, -, -, -⟩ := row_cells (row_gr hT9 hg3)) | (go_at_call 58; refine (tmay_any _ _ _ _ _ tf _ (HSL.out.gr (hG9.trans hg3))).mono ?_; rintro e w4 ⟨rfl, hg4⟩; rw [hm1']))
            go_ret
            exact ⟨ret_bool HF.out.symm, hgr.trans (hG9.trans (hg3.trans hg4))⟩
        · have HF := hide hf
          rw [HTT.out] at hf
          obtain ⟨hm1, hm2, hm3⟩ := (fitT_iff _ _ _ _).1 hf
          simp only at hm1 hm2 hm3
          have d2 : (TW != twF W s) = false := by simp [hm2]
          have d3 : (TH != thF W H s) = false := by simp [hm3]
          clear hf hm2 hm3
          go_wp2_with (first | (go_at_call 52; refine (HSY.out _).mono ?_; rintro e w3 ⟨rfl, hd3⟩; have hg3 := Dr.gr hd3; clear hd3; obtain ⟨x1, x2, x3, -, -, -⟩ := row_cells (row_gr hT9 hg3)) | (go_at_call 58; refine (tmay_any _ _ _ _ _ tf _ (HSL.out.gr (hG9.trans hg3))).mono ?_; rintro e w4 ⟨rfl, hg4⟩; rw [hm1]; replace x1 := cell_gr x1 hg4; replace x2 := cell_gr x2 hg4; replace x3 := cell_gr x3 hg4))
          go_roundw
          case rel =>
            refine ⟨s + 1, by omega, by go_num, fun j hj => ?_, hgr.trans (hG9.trans (hg3.trans hg4))⟩
            by_cases e : j = s
            · rw [e]; exact HF.out
            · exact HAL.out j (by omega)
          case measure => simp [intOf]; omega
      · have E : Hid (coverB W H n t = true) := hide ((cover_iff _ _ _ _).2 ⟨HNC.out, fun s' hs' => HAL.out s' (by omega)⟩)
        go_wp2
        go_ret
        exact ⟨ret_bool E.out.symm, hgr⟩
  · have hne : ((n : Int) != (cntS W H : Int)) = true := by simp; omega
    have E : Hid (coverB W H n t = false) := hide (by simp [coverB, hnc])
    clear hnc hci hcn
    go_enter Tryd.func47, Tryd.ntmps47
    go_wp2_with (go_at_call 31; refine (asectors_any _ _ _).mono ?_; rintro e w1 ⟨rfl, hg1⟩; rw [← HCI.out])
    go_ret
    exact ⟨ret_bool E.out.symm, hg1⟩

set_option maxHeartbeats 2000000 in
theorem join_no (W H : Int) (a : Option Addr) (n cap : Nat) (t : Nat → Ti) (w : World) (h : TSl w a n t) (hn : n ≤ 100000) (hm : mayB W H = true) (hc : coverB W H n t = false) :
    Calls Tryd.prog 28 #[.int .i64 W, .int .i64 H, .slice a n cap] w fun e w' => e = .returned (.tuple #[.agg #[.int .i64 0, .int .i64 0, .slice none 0 0], .bool false]) ∧ Gr w w' := by
  have R1 := hide (tri_alloc w (.int .i64 0) (.int .i64 0) (.slice none 0 0) 24)
  have hU : Gr w (w.alloc (.cells #[.int .i64 0, .int .i64 0, .slice none 0 0] 24)) := (Gr.refl w).alloc _
  have HCV := hide (fun (u : World) (hu : Gr w u) => cover_any W H a n cap t u (h.gr hu) hn hm)
  go_enter Tryd.func28, Tryd.ntmps28
  go_wp2_with (first | (go_at_call 36; refine (may_any _ _ _).mono ?_; rintro e w1 ⟨rfl, hd⟩; rw [hm]; have hg1 := Dr.gr hd; clear hd) | (go_at_call 47; refine (HCV.out _ (hU.trans hg1)).mono ?_; rintro e w2 ⟨rfl, hg2⟩; rw [hc]; obtain ⟨e1, e2, e3, j1, j2, j3⟩ := row_cells (row_gr R1.out (hg1.trans hg2))))
  exact bodyPost_ret (v := .tuple #[.agg #[.int .i64 0, .int .i64 0, .slice none 0 0], .bool false]) (by simp [results, Tryd.results28, go_sem, e1, e2, e3]) rfl ⟨rfl, gr_set3 (hU.trans (hg1.trans hg2)) (Nat.le_refl _)⟩

set_option maxHeartbeats 2000000 in
theorem join_yes (W H : Int) (a : Option Addr) (n cap N : Nat) (t : Nat → Ti) (ts : List (List Int)) (w : World) (h : TSl w a n t) (hn : n ≤ 100000) (hm : mayB W H = true) (hc : coverB W H n t = true) (hN : (N : Int) = W * H) (hts : ∀ s, s < n → ∀ i, i < tnF W H s → (t s).f i = at0 (ts.getD s []) i) :
    Calls Tryd.prog 28 #[.int .i64 W, .int .i64 H, .slice a n cap] w fun e w' => (∃ g, e = .returned (.tuple #[.agg #[.int .i64 W, .int .i64 H, .slice (some ⟨g, 0, none⟩) N N], .bool true]) ∧ Row w' g N (joinF W ts)) ∧ Gr w w' := by
  obtain ⟨hnc, hfit⟩ := (cover_iff _ _ _ _).1 hc
  have R1 := hide (tri_alloc w (.int .i64 0) (.int .i64 0) (.slice none 0 0) 24)
  have hU : Gr w (w.alloc (.cells #[.int .i64 0, .int .i64 0, .slice none 0 0] 24)) := (Gr.refl w).alloc _
  have HCV := hide (fun (u : World) (hu : Gr w u) => cover_any W H a n cap t u (h.gr hu) hn hm)
  have HL := hide (fun (u : World) (hu : Gr w u) => alay_any W H a n cap N t ts u (h.gr hu) hm hnc hN (fun s hs => by
    obtain ⟨f1, f2, f3⟩ := (fitT_iff _ _ _ _).1 (hfit s hs)
    obtain ⟨-, -, f4, -⟩ := (mayTB_iff _ _ _ _).1 f1
    have ht := tnF_eq (W := W) (H := H) (s := s) (sec_of (by omega))
    rw [f2, f3, ← ht.1] at f4
    exact ⟨f2, f3, by omega, hts s hs⟩))
  clear hnc hfit
  go_enter Tryd.func28, Tryd.ntmps28
  go_wp2_with (first | (go_at_call 36; refine (may_any _ _ _).mono ?_; rintro e w1 ⟨rfl, hd⟩; rw [hm]; have hg1 := Dr.gr hd; clear hd) | (go_at_call 47; refine (HCV.out _ (hU.trans hg1)).mono ?_; rintro e w2 ⟨rfl, hg2⟩; rw [hc]) | (go_at_call 48; refine (HL.out _ (hU.trans (hg1.trans hg2))).mono ?_; rintro e w3 ⟨⟨g3, rfl, hrow, hgb⟩, hg3⟩; obtain ⟨e1, e2, e3, j1, j2, j3⟩ := row_cells (row_gr R1.out (hg1.trans (hg2.trans hg3)))))
  have hg3w : g3 ≠ w.heap.size := by have := hg1.size; have := hg2.size; simp only [World.size_alloc] at *; omega
  exact bodyPost_ret (v := .tuple #[.agg #[.int .i64 W, .int .i64 H, .slice (some ⟨g3, 0, none⟩) N N], .bool true]) (by simp [results, Tryd.results28, go_sem, e1, e2, e3]) rfl ⟨⟨g3, rfl, ((hrow.setO (p := ⟨w.heap.size, 0, none⟩) hg3w).setO (p := ⟨w.heap.size, 1, none⟩) hg3w).setO (p := ⟨w.heap.size, 2, none⟩) hg3w⟩, gr_set3 (hU.trans (hg1.trans (hg2.trans hg3))) (Nat.le_refl _)⟩

end Go.Proofs.YtakmiafloolpmaaDoor
