/- What the document's PutMap answers, of maps in memory. -/
import Derived.Test.YtakmiafloolpmaaDoorARef
namespace Go.Proofs.YtakmiafloolpmaaDoor
open Go.RowKit
set_option maxRecDepth 20000

set_option maxHeartbeats 4000000 in
theorem rputM_any (W H : Int) (a : Option Addr) (n cap : Nat) (f : Nat → Int) (w : World) (h : Sl w a n f) (hm : mayM W H n f = true) :
    Calls Tryd.prog 20 #[.agg #[.int .i64 W, .int .i64 H, .slice a n cap]] w fun e w' => (∃ g c, e = .returned (.slice (some ⟨g, 0, none⟩) (putM W H f).length c) ∧ OwnB w' w.heap.size g (putM W H f).length c (at0 (putM W H f))) ∧ Gr w w' := by
  obtain ⟨i0, hi, hz0, hz1, hz2⟩ := info_parts info_u8
  obtain ⟨hmb, hN, hf0⟩ := (mayM_iff _ _ _ _).1 hm
  obtain ⟨m1, m2, m3, m4⟩ := (mayB_iff _ _).1 hmb
  have hcn := cntS_eq hmb
  have hci := cntS_int W H
  obtain ⟨C, hC⟩ : ∃ C, cntS W H = C := ⟨_, rfl⟩
  rw [hC] at hcn hci
  obtain ⟨hcn0, hcn1, hcn2⟩ := hcn
  have HCI := hide hci
  have HB := hide (putS_byte hm h.byte)
  have HTN := hide (fun s (hs : s < C) => tnF_eq (W := W) (H := H) (sec_of (s := s) (by omega)))
  have HK := hide (fun (s : Nat) (u : World) (hu : Gr w u) (hs : s < C) => rtileOf_any W H a n cap f s u (h.gr hu) hm (by omega))
  have HE : Hid (putM W H f = putS W H f C) := hide (by unfold putM; rw [hC])
  rw [HE.out]
  rw [hC] at HB
  have hU : (w.alloc (.cells #[.int .i64 W, .int .i64 H, .slice a n cap] 24)).heap.size = w.heap.size + 1 := World.size_alloc _ _
  have hUw : Gr w (w.alloc (.cells #[.int .i64 W, .int .i64 H, .slice a n cap] 24)) := (Gr.refl w).alloc _
  have R1 := tri_alloc w (.int .i64 W) (.int .i64 H) (.slice a n cap) 24
  clear hci hcn0 hC hN hf0
  go_enter Tryd.func20, Tryd.ntmps20
  go_wp2_with fail
  have hst : RowL ((w.alloc (.cells #[.int .i64 W, .int .i64 H, .slice a n cap] 24)).alloc (.cells #[.int .u8 (W % 256), .int .u8 (W / 256), .int .u8 (H % 256), .int .u8 (H / 256)] 5)) (w.heap.size + 1) (.slice (some ⟨w.heap.size + 1, 0, none⟩) 4 4) (putS W H f 0) := by
    have := RowL.four (w.alloc (.cells #[.int .i64 W, .int .i64 H, .slice a n cap] 24)) (W % 256) (W / 256) (H % 256) (H / 256)
    rw [World.size_alloc] at this
    exact this
  have hgU := (Gr.refl (w.alloc (.cells #[.int .i64 W, .int .i64 H, .slice a n cap] 24))).alloc (.cells #[.int .u8 (W % 256), .int .u8 (W / 256), .int .u8 (H % 256), .int .u8 (H / 256)] 5)
  generalize ((w.alloc (.cells #[.int .i64 W, .int .i64 H, .slice a n cap] 24)).alloc (.cells #[.int .u8 (W % 256), .int .u8 (W / 256), .int .u8 (H % 256), .int .u8 (H / 256)] 5)) = U2 at *
  generalize (w.alloc (.cells #[.int .i64 W, .int .i64 H, .slice a n cap] 24)) = U at *
  go_loopw [3, 4] (fun v i u => ∃ (s g c : Nat), s ≤ C ∧ i = .int .i64 s ∧ v = .slice (some ⟨g, 0, none⟩) (putS W H f s).length c ∧ RowL u (w.heap.size + 1) (.slice (some ⟨g, 0, none⟩) (putS W H f s).length c) (putS W H f s) ∧ w.heap.size + 1 ≤ g ∧ Gr U u) (fun _ i _ => C - (intOf i).toNat)
  case atStart => exact ⟨0, w.heap.size + 1, 4, Nat.zero_le _, rfl, rfl, hst, Nat.le_refl _, hgU⟩
  case round =>
    clear hst hgU
    obtain ⟨s, g, c, hs, rfl, rfl, hrow, hgb, hgr⟩ := hrel
    obtain ⟨d1, d2, d3, -, -, -⟩ := row_cells (row_gr R1 hgr)
    have hbs := HB.out s hs
    by_cases hlt : s < C
    · have hbs' := HB.out (s + 1) hlt
      have hK := fun u (hu : Gr w u) => HK.out s u hu hlt
      have htn := HTN.out s hlt
      have hnext : putS W H f (s + 1) = putS W H f s ++ partL W H f s := rfl
      have hlen : 2 ≤ (partL W H f s).length ∧ (partL W H f s).length ≤ 257 := by
        have := putL_bd2 (n := tnF W H s) (f := tileF W s f) htn.2.1
        unfold partL
        omega
      have hpe : putL (tnF W H s) (tileF W s f) = partL W H f s := rfl
      have hput := fun (u : World) (g1 c1 : Nat) (hsl : Sl u (some ⟨g1, 0, none⟩) (tnF W H s) (tileF W s f)) => rput_any (twF W s) (thF W H s) (some ⟨g1, 0, none⟩) (tnF W H s) c1 (tileF W s f) u hsl htn.2.1 htn.2.2
      rw [hpe] at hput
      obtain ⟨hb1, hb2, -⟩ := hbs
      have HX := hide hnext
      have HPU := hide hput
      have HKK := hide hK
      have HRO := hide hrow
      clear hbs' hpe hput hK hnext hrow htn
      generalize putS W H f s = L at *
      generalize partL W H f s = M at *
      go_wp2_with (first | (go_at_call 12; refine (rcount_any _ _ _).mono ?_; rintro e w2 ⟨rfl, hd2⟩; rw [← HCI.out]; have hg2 := Dr.gr hd2; clear hd2; replace d1 := cell_gr d1 hg2; replace d2 := cell_gr d2 hg2; replace d3 := cell_gr d3 hg2) | (go_at_call 18; refine (HKK.out _ (hUw.trans (hgr.trans hg2))).mono ?_; rintro e w3 ⟨⟨g3, c3, rfl, ho3⟩, hg3⟩) | (go_at_call 40; obtain ⟨q1, q2, q3, q4, hsl3⟩ := ho3.sl; refine (HPU.out _ _ _ hsl3).mono ?_; rintro e w4 ⟨⟨g4, c4, rfl, ho4⟩, hg4⟩; clear hsl3) | (at_builtin; refine wpList_append_own _ rfl _ _ 22 rfl (w.heap.size + 1) 5 i0 (.int .u8 0) 1 1 Tryd.underlying22 hi hz0 hz1 hz2 rfl (by decide) (.slice (some ⟨g, 0, none⟩) L.length c) L.length (L.map (Value.int .u8)) rfl (HRO.out.gr (hg2.trans (hg3.trans hg4))) ⟨g4, 0, none⟩ M.length c4 (cel .u8 M.length (at0 M)) rfl (by simp [cel_len]) (own_news ho4 (Gr.refl _)) (cel_one _ _ _) (by unfold maxLen; omega) (by omega) (by have := hgr.size; have := hg2.size; have := hg3.size; have := hg4.size; omega) ?_; intro v' w5 hown5 hgrow5 hnil5; obtain ⟨g5, c5, rfl, ho5, hgb5, hgr5⟩ := rowL_more hown5 (by omega) hgrow5 (hgr.trans (hg2.trans (hg3.trans hg4))) (by omega); clear hown5 hgrow5 hnil5))
      go_roundw
      case rel => exact ⟨s + 1, g5, c5, by omega, by go_num, by rw [HX.out, List.length_append], by rw [HX.out]; exact ho5, hgb5, hgr5⟩
      case measure => simp [intOf]; omega
    · have hsC : s = C := by omega
      subst hsC
      have HRO := hide hrow
      clear hrow
      go_wp2_with (go_at_call 12; refine (rcount_any _ _ _).mono ?_; rintro e w2 ⟨rfl, hd2⟩; rw [← HCI.out]; have hg2 := Dr.gr hd2; clear hd2)
      go_ret
      exact ⟨⟨g, c, rfl, ((HRO.out.gr hg2).mono (by omega)).ownB hbs.2.2⟩, hUw.trans (hgr.trans hg2)⟩

end Go.Proofs.YtakmiafloolpmaaDoor
