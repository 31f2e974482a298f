/- What the document's Nodes and Cross make: rows of their own, the same lists; nothing that was there is written. -/
import Derived.Test.YtgbadbkipaccgaaGreatBRCells11
namespace Go.Proofs.YtgbadbkipaccgaaGreat
open Go.RowKit
set_option maxRecDepth 20000

set_option maxHeartbeats 4000000 in
theorem rnodes_any (W H : Int) (a : Option Addr) (N cap : Nat) (f : Nat → Int) (s : Int) (w : World) (h : Sl w a N f) :
    Calls Tryz.prog 17 #[.agg #[.int .i64 W, .int .i64 H, .slice a N cap], .int .i64 s] w fun e w' => (∃ v, e = .returned v ∧ w'.ownsRow w.heap.size 3 1 v (nodesL W H N f s).length (flatN (nodesL W H N f s))) ∧ Gr w w' := by
  obtain ⟨i0, hi, hz0, hz1, hz2⟩ := info_parts info_int
  have HN := hide (nodesL_some W H N f s)
  have hL := cellsL_len W H s
  have HC := hide (fun u => rcells_any W H s u)
  rw [HN.out]
  clear HN
  generalize cellsL W H s = L at *
  obtain ⟨n, hn⟩ : ∃ n, L.length = n := ⟨_, rfl⟩
  rw [hn] at hL ⊢
  have HL := hide hn
  have hwU := (Gr.refl w).alloc (.cells #[.int .i64 W, .int .i64 H, .slice a N cap] 24)
  have HS := hide (h.gr hwU)
  have HB := hide (tri_alloc w (.int .i64 W) (.int .i64 H) (.slice a N cap) 24)
  have HWU := hide hwU
  clear h hwU
  go_enter Tryz.func17, Tryz.ntmps17
  go_wp2_with (go_at_call 42; refine (HC.out _).mono ?_; rintro e w2 ⟨⟨v2, rfl, hown2⟩, hg2⟩; obtain ⟨al, cl, rfl, hil⟩ := IlS.slot (w := w2) hown2; rw [hn] at hil; rw [hn]; have HI := hide hil; clear hil hown2 hn; have HB2 := hide (row_gr HB.out hg2); have HS2 := hide (HS.out.gr hg2); have HR0 := hide (HWU.out.trans hg2); clear hg2 HB HS HWU)
  go_loopw [5, 7] (fun v i u => ∃ k : Nat, k ≤ n ∧ i = .int .i64 k ∧ u.ownsRow w2.heap.size 3 1 v (someK (fun (c : Nat) => opB N f (c : Int)) L k).length (flatN (someK (fun (c : Nat) => opB N f (c : Int)) L k)) ∧ Gr w2 u) (fun _ i _ => n - (intOf i).toNat)
  case atStart => exact ⟨0, Nat.zero_le _, rfl, ints_nil _ _, Gr.refl _⟩
  case round =>
    obtain ⟨k, hk, rfl, hown, hgr⟩ := hrel
    by_cases hlt : k < n
    · have hkI : (k : Int) < (n : Int) := by omega
      have hk0 : 0 ≤ (k : Int) := by omega
      have HO := hide hown
      have HR := hide hgr
      have cl := someK_len (fun (c : Nat) => opB N f (c : Int)) L k
      obtain ⟨b, o, rfl, hB, hc⟩ := HI.out.at (by omega)
      have ck := cell_gr (hc k hlt) hgr
      have kl : k < L.length := by rw [HL.out]; exact hlt
      obtain ⟨g, hg⟩ : ∃ g, L.getD k 0 = g := ⟨_, rfl⟩
      rw [hg] at ck
      obtain ⟨c1, c2, c3, -, -, -⟩ := row_cells (row_gr HB2.out hgr)
      have HSr := hide (HS2.out.gr hgr)
      have HY : Hid (opB N f (g : Int) = true → someK (fun (c : Nat) => opB N f (c : Int)) L (k + 1) = someK (fun (c : Nat) => opB N f (c : Int)) L k ++ [g]) := hide (fun hb => by rw [← hg]; exact someK_yes kl (by rw [hg]; exact hb))
      have HN : Hid (opB N f (g : Int) = false → someK (fun (c : Nat) => opB N f (c : Int)) L (k + 1) = someK (fun (c : Nat) => opB N f (c : Int)) L k) := hide (fun hb => someK_no kl (by rw [hg]; exact hb))
      clear hown hgr hg hc kl
      cases hb : opB N f (g : Int)
      · have HE := hide (HN.out hb)
        go_wp2_with fail
        go_region_held3 (fun z => z.cell? ⟨w.heap.size, 0, none⟩ = some (.int .i64 W) ∧ z.cell? ⟨w.heap.size, 1, none⟩ = some (.int .i64 H) ∧ z.cell? ⟨w.heap.size, 2, none⟩ = some (.slice a N cap) ∧ z.cell? ⟨b, o + k, none⟩ = some (.int .i64 (g : Int)) ∧ Gr wr z) (first | exact ⟨c1, c2, c3, ck, (Gr.refl _).drew⟩ | exact ⟨cell_gr hS.1 hg9, cell_gr hS.2.1 hg9, cell_gr hS.2.2.1 hg9, cell_gr hS.2.2.2.1 hg9, hS.2.2.2.2.trans hg9⟩) ((go_at_call 43; have hS := ‹_ ∧ _ ∧ _ ∧ _ ∧ Gr wr _›; refine (ropen_any W H _ N cap f _ _ (HSr.out.gr hS.2.2.2.2)).mono ?_; rintro e w9 ⟨rfl, hg9⟩; rw [hb]))
        have hS9 := (‹_ ∧ _ ∧ _ ∧ _ ∧ Gr wr _›).2.2.2.2
        go_wp2_with fail
        go_roundw
        case rel => exact ⟨k + 1, by omega, by go_num, by rw [HE.out]; exact own_grI HO.out hS9, HR.out.trans hS9⟩
        case measure => simp [intOf]; omega
      · have HE := hide (HY.out hb)
        go_wp2_with fail
        go_region_held3 (fun z => z.cell? ⟨w.heap.size, 0, none⟩ = some (.int .i64 W) ∧ z.cell? ⟨w.heap.size, 1, none⟩ = some (.int .i64 H) ∧ z.cell? ⟨w.heap.size, 2, none⟩ = some (.slice a N cap) ∧ z.cell? ⟨b, o + k, none⟩ = some (.int .i64 (g : Int)) ∧ Gr wr z) (first | exact ⟨c1, c2, c3, ck, (Gr.refl _).drew⟩ | exact ⟨cell_gr hS.1 hg9, cell_gr hS.2.1 hg9, cell_gr hS.2.2.1 hg9, cell_gr hS.2.2.2.1 hg9, hS.2.2.2.2.trans hg9⟩) ((go_at_call 43; have hS := ‹_ ∧ _ ∧ _ ∧ _ ∧ Gr wr _›; refine (ropen_any W H _ N cap f _ _ (HSr.out.gr hS.2.2.2.2)).mono ?_; rintro e w9 ⟨rfl, hg9⟩; rw [hb]))
        have hS9 := (‹_ ∧ _ ∧ _ ∧ _ ∧ Gr wr _›).2.2.2.2
        have hck := (‹_ ∧ _ ∧ _ ∧ _ ∧ Gr wr _›).2.2.2.1
        have HO2 := hide (own_grI HO.out hS9)
        have HR2 := hide (HR.out.trans hS9)
        go_wp2_with (at_builtin; refine wpList_append_own _ rfl _ _ 31 rfl w2.heap.size 3 i0 (.int .i64 0) 1 8 Tryz.underlying31 hi hz0 hz1 hz2 rfl (by decide) _ _ _ rfl (own_grI HO2.out ((Gr.refl _).alloc _)) ⟨_, 0, none⟩ 1 1 [.int .i64 g] rfl rfl (alloc_one _ _ _) (by simp [Value.oneCell']) (by unfold maxLen; omega) (by omega) (by have := HR2.out.size; simp only [World.size_alloc]; omega) ?_; intro v' w4 hown' hgrow hnil)
        go_roundw
        case rel => exact ⟨k + 1, by omega, by go_num, by rw [HE.out, List.length_append, flatN_app]; exact hown', Gr.grown (HR2.out.alloc _) hgrow (fun q e => (HO2.out.lt q e).1)⟩
        case measure => simp [intOf]; omega
    · have hkn : k = n := by omega
      subst hkn
      go_wp2
      go_ret
      exact ⟨⟨_, rfl, own_baseI hown HR0.out.size⟩, HR0.out.trans hgr⟩

end Go.Proofs.YtgbadbkipaccgaaGreat
