/- What atlas.Put and Tile answer, of maps in memory. -/
import Derived.Test.YtakmiafloolpmaaDoorAWalks2
namespace Go.Proofs.YtakmiafloolpmaaDoor
open Go.RowKit
set_option maxRecDepth 20000

theorem own_news {w u : World} {base g n c : Nat} {f : Nat → Int} (h : OwnB w base g n c f) (k : Gr w u) : ∀ j v, (cel .u8 n f)[j]? = some v → u.cell? ((⟨g, 0, none⟩ : Addr).add j) = some v := by
  by_cases hn : n = 0
  · intro j v hj
    subst hn
    simp [cel] at hj
  obtain ⟨b', o', e, hB, hc⟩ := h.sl.2.2.2.2.at (by omega)
  cases e
  exact cel_at hc hB k
/-- a list of bytes behind another one -/
theorem rowL_more {w1 u U : World} {base g c : Nat} {v' : Value} {L M : List Int} (h : w1.ownsRow base 5 1 v' (L.length + M.length) (L.map (Value.int .u8) ++ cel .u8 M.length (at0 M))) (hM : 0 < M.length) (hg : u.grownBy w1 (Value.slice (some ⟨g, 0, none⟩) L.length c).ownBlock) (h0 : Gr U u) (hgb : U.heap.size ≤ g) :
    ∃ g' c', v' = .slice (some ⟨g', 0, none⟩) (L ++ M).length c' ∧ RowL w1 base (.slice (some ⟨g', 0, none⟩) (L ++ M).length c') (L ++ M) ∧ base ≤ g' ∧ Gr U w1 := by
  have h1 : RowL w1 base v' (L ++ M) := by
    unfold RowL
    rw [List.map_append, List.length_append]
    have e := cel_list .u8 M
    unfold at0 at h
    rw [e] at h
    exact h
  obtain ⟨g', c', rfl, hb, -, -, -⟩ := h1.form (by rw [List.length_append]; omega)
  refine ⟨g', c', rfl, h1, hb, Gr.grown h0 hg ?_⟩
  intro k hk
  simp [Value.ownBlock] at hk
  omega
theorem RowL.four (w : World) (x y z v : Int) : RowL (w.alloc (.cells #[.int .u8 x, .int .u8 y, .int .u8 z, .int .u8 v] 5)) w.heap.size (.slice (some ⟨w.heap.size, 0, none⟩) 4 4) [x, y, z, v] :=
  World.ownsRow_lit (base := w.heap.size) (e := 5) (size := 1) w #[.int .u8 x, .int .u8 y, .int .u8 z, .int .u8 v] 4 (Nat.le_refl _) (by unfold maxLen; omega) rfl

set_option maxHeartbeats 1000000 in
theorem aput_no (W H : Int) (a : Option Addr) (n cap : Nat) (f : Nat → Int) (w : World) (h : Sl w a n f) (hm : mayM W H n f = false) :
    Calls Tryd.prog 13 #[.agg #[.int .i64 W, .int .i64 H, .slice a n cap]] w fun e w' => e = .returned (.tuple #[.slice none 0 0, .int .i64 1]) ∧ Gr w w' := by
  go_enter Tryd.func13, Tryd.ntmps13
  go_wp2_with (go_at_call 16; refine (amay_any _ _ _ _ _ f _ (h.gr (by repeat (first | exact Gr.refl _ | assumption | exact Dr.gr (by assumption) | refine Gr.alloc ?_ _ | refine Gr.drewN ?_ _ | refine Gr.drew ?_ | refine Gr.trans ?_ (by assumption) | refine Gr.trans ?_ (Dr.gr (by assumption)))))).mono ?_; rintro e w' ⟨rfl, hg⟩; rw [hm])
  go_ret2
  exact ⟨rfl, (by repeat (first | exact Gr.refl _ | assumption | exact Dr.gr (by assumption) | refine Gr.alloc ?_ _ | refine Gr.drewN ?_ _ | refine Gr.drew ?_ | refine Gr.trans ?_ (by assumption) | refine Gr.trans ?_ (Dr.gr (by assumption))))⟩

set_option maxHeartbeats 4000000 in
theorem aput_yes (W H : Int) (a : Option Addr) (n cap : Nat) (f : Nat → Int) (w : World) (h : Sl w a n f) (hc : n ≤ cap) (hm : mayM W H n f = true) :
    Calls Tryd.prog 13 #[.agg #[.int .i64 W, .int .i64 H, .slice a n cap]] w fun e w' => (∃ g c, e = .returned (.tuple #[.slice (some ⟨g, 0, none⟩) (putM W H f).length c, .int .i64 0]) ∧ OwnB w' w.heap.size g (putM W H f).length c (at0 (putM W H f))) ∧ Gr w w' := by
  obtain ⟨i0, hi, hz0, hz1, hz2⟩ := info_parts info_u8
  obtain ⟨hmb, hN, hf0⟩ := (mayM_iff _ _ _ _).1 hm
  obtain ⟨m1, m2, m3, m4⟩ := (mayB_iff _ _).1 hmb
  have hcn := cntS_eq hmb
  have hci := cntS_int W H
  obtain ⟨C, hC⟩ : ∃ C, cntS W H = C := ⟨_, rfl⟩
  rw [hC] at hcn hci
  obtain ⟨hcn0, hcn1, hcn2⟩ := hcn
  have HCI := hide hci
  have HB := hide (putS_byte hm h.byte)
  have HT := hide (fun s (hs : s < C) => tile_may hm (sec_of (s := s) (by omega)))
  have HTN := hide (fun s (hs : s < C) => tnF_eq (W := W) (H := H) (sec_of (s := s) (by omega)))
  have HK := hide (fun (s : Nat) (u : World) (hu : Gr w u) (hs : s < C) => acut_any W H a n cap f s u (h.gr hu) hc hm (by omega))
  have HE : Hid (putM W H f = putS W H f C) := hide (by unfold putM; rw [hC])
  rw [HE.out]
  rw [hC] at HB
  have hU : (w.alloc (.cells #[.int .i64 W, .int .i64 H, .slice a n cap] 24)).heap.size = w.heap.size + 1 := World.size_alloc _ _
  have hUw : Gr w (w.alloc (.cells #[.int .i64 W, .int .i64 H, .slice a n cap] 24)) := (Gr.refl w).alloc _
  have R1 := tri_alloc w (.int .i64 W) (.int .i64 H) (.slice a n cap) 24
  clear hci hcn0 hC
  go_enter Tryd.func13, Tryd.ntmps13
  go_wp2_with (first | (go_at_call 16; refine (amay_any _ _ _ _ _ f _ (h.gr (by repeat (first | exact Gr.refl _ | assumption | exact Dr.gr (by assumption) | refine Gr.alloc ?_ _ | refine Gr.drewN ?_ _ | refine Gr.drew ?_ | refine Gr.trans ?_ (by assumption) | refine Gr.trans ?_ (Dr.gr (by assumption)))))).mono ?_; rintro e w1 ⟨rfl, hg1⟩; rw [hm]; obtain ⟨ho1, -, -⟩ := hg1.old; have hz1' : w.heap.size < w1.heap.size := (by have := hg1.size; simp only [World.size_alloc] at this; omega)) | (go_at_call 31; refine (asectors_any _ _ _).mono ?_; rintro e w2 ⟨rfl, hg2⟩; rw [← HCI.out]))
  generalize (w.alloc (.cells #[.int .i64 W, .int .i64 H, .slice a n cap] 24)) = U at *
  have hUs := hg1.size
  have hst : RowL w2 (w.heap.size + 1) (.slice (some ⟨w1.heap.size, 0, none⟩) 4 4) (putS W H f 0) := ((RowL.four w1 (W % 256) (W / 256) (H % 256) (H / 256)).gr hg2).mono (by omega)
  have hgU : Gr U w2 := hg1.trans (((Gr.refl w1).alloc _).trans hg2)
  clear hg1 hg2 ho1
  go_loopw [4, 31] (fun v i u => ∃ (s g c : Nat), s ≤ C ∧ i = .int .i64 s ∧ v = .slice (some ⟨g, 0, none⟩) (putS W H f s).length c ∧ RowL u (w.heap.size + 1) (.slice (some ⟨g, 0, none⟩) (putS W H f s).length c) (putS W H f s) ∧ w.heap.size + 1 ≤ g ∧ Gr U u) (fun _ i _ => C - (intOf i).toNat)
  case atStart => exact ⟨0, w1.heap.size, 4, Nat.zero_le _, rfl, rfl, hst, by omega, hgU⟩
  case round =>
    clear hst hgU
    obtain ⟨s, g, c, hs, rfl, rfl, hrow, hgb, hgr⟩ := hrel
    obtain ⟨d1, d2, d3, -, -, -⟩ := row_cells (row_gr R1 hgr)
    have hbs := HB.out s hs
    by_cases hlt : s < C
    · have hbs' := HB.out (s + 1) hlt
      have hK := fun u (hu : Gr w u) => HK.out s u hu hlt
      have htn := HTN.out s hlt
      have hP := fun (u : World) (g1 c1 : Nat) (ho : OwnB u u.heap.size g1 (tnF W H s) c1 (tileF W s f)) => ho
      have hmay := HT.out s hlt
      have hnext : putS W H f (s + 1) = putS W H f s ++ partL W H f s := rfl
      have hlen : 2 ≤ (partL W H f s).length ∧ (partL W H f s).length ≤ 257 := by
        have := putL_bd2 (n := tnF W H s) (f := tileF W s f) htn.2.1
        unfold partL
        omega
      have hpe : putL (tnF W H s) (tileF W s f) = partL W H f s := rfl
      have hput := fun (u : World) (g1 c1 : Nat) (hsl : Sl u (some ⟨g1, 0, none⟩) (tnF W H s) (tileF W s f)) (q1 : tnF W H s ≤ c1) (q2 : c1 ≤ maxLen) => put_yes (twF W s) (thF W H s) (some ⟨g1, 0, none⟩) (tnF W H s) c1 (tileF W s f) u hsl q1 q2 hmay
      rw [hpe] at hput
      obtain ⟨hb1, hb2, -⟩ := hbs
      have HX := hide hnext
      have HPU := hide hput
      have HKK := hide hK
      have HRO := hide hrow
      clear hbs' hP hmay hpe hput hK hnext hrow htn
      generalize putS W H f s = L at *
      generalize partL W H f s = M at *
      go_wp2_with (first | (go_at_call 33; refine (HKK.out _ (hUw.trans hgr)).mono ?_; rintro e w3 ⟨⟨g3, c3, rfl, ho3⟩, hg3⟩) | (go_at_call 32; obtain ⟨q1, q2, q3, q4, hsl3⟩ := ho3.sl; refine (HPU.out _ _ _ hsl3 q1 q2).mono ?_; rintro e w4 ⟨⟨g4, c4, rfl, ho4⟩, hg4⟩; clear hsl3) | (at_builtin; refine wpList_append_own _ rfl _ _ 22 rfl (w.heap.size + 1) 5 i0 (.int .u8 0) 1 1 Tryd.underlying22 hi hz0 hz1 hz2 rfl (by decide) (.slice (some ⟨g, 0, none⟩) L.length c) L.length (L.map (Value.int .u8)) rfl (HRO.out.gr (hg3.trans hg4)) ⟨g4, 0, none⟩ M.length c4 (cel .u8 M.length (at0 M)) rfl (by simp [cel_len]) (own_news ho4 (Gr.refl _)) (cel_one _ _ _) (by unfold maxLen; omega) (by omega) (by have := hgr.size; have := hg3.size; have := hg4.size; omega) ?_; intro v' w5 hown5 hgrow5 hnil5; obtain ⟨g5, c5, rfl, ho5, hgb5, hgr5⟩ := rowL_more hown5 (by omega) hgrow5 (hgr.trans (hg3.trans hg4)) (by omega); clear hown5 hgrow5 hnil5))
      go_roundw
      case rel => exact ⟨s + 1, g5, c5, by omega, by go_num, by rw [HX.out, List.length_append], by rw [HX.out]; exact ho5, hgb5, hgr5⟩
      case measure => simp [intOf]; omega
    · have hsC : s = C := by omega
      subst hsC
      have HRO := hide hrow
      clear hrow
      go_wp2
      go_ret2
      exact ⟨⟨g, c, rfl, (HRO.out.mono (by omega)).ownB hbs.2.2⟩, hUw.trans hgr⟩

set_option maxHeartbeats 2000000 in
theorem atile_no (W H : Int) (a : Option Addr) (n cap : Nat) (f : Nat → Int) (s : Int) (w : World) (h : Sl w a n f) (hm : mayM W H n f = false ∨ isSectorB W H s = false) :
    Calls Tryd.prog 14 #[.agg #[.int .i64 W, .int .i64 H, .slice a n cap], .int .i64 s] w fun e w' => e = .returned (.tuple #[.agg #[.int .i64 0, .int .i64 0, .slice none 0 0], .bool false]) ∧ Gr w w' := by
  cases hmm : mayM W H n f
  · go_enter Tryd.func14, Tryd.ntmps14
    go_wp2_with (go_at_call 16; refine (amay_any _ _ _ _ _ f _ (h.gr (by repeat (first | exact Gr.refl _ | assumption | exact Dr.gr (by assumption) | refine Gr.alloc ?_ _ | refine Gr.drewN ?_ _ | refine Gr.drew ?_ | refine Gr.trans ?_ (by assumption) | refine Gr.trans ?_ (Dr.gr (by assumption)))))).mono ?_; rintro e w1 ⟨rfl, hg1⟩; rw [hmm]; obtain ⟨ho, hf, hs⟩ := hg1.old)
    exact bodyPost_ret (v := .tuple #[.agg #[.int .i64 0, .int .i64 0, .slice none 0 0], .bool false]) (by simp [results, Tryd.results14, go_sem, ho]) rfl ⟨rfl, (by repeat (first | exact Gr.refl _ | assumption | exact Dr.gr (by assumption) | refine Gr.alloc ?_ _ | refine Gr.drewN ?_ _ | refine Gr.drew ?_ | (refine Gr.set ?_ (by first | exact Nat.le_refl _ | exact Nat.le_succ _ | (show _ ≤ _; omega) | (simp only [World.size_alloc] at *; omega)) _) | refine Gr.trans ?_ (by assumption) | refine Gr.trans ?_ (Dr.gr (by assumption))))⟩
  · have hs : isSectorB W H s = false := by
      rcases hm with hm | hm
      · rw [hm] at hmm; cases hmm
      · exact hm
    have hk : s < 0 ∨ countF W H ≤ s := by
      have n : ¬ (0 ≤ s ∧ s ≤ countF W H - 1) := fun h => by rw [(count_iff W H s).2 h] at hs; cases hs
      omega
    have cb := count_bd W H
    by_cases h0 : s < 0
    · go_enter Tryd.func14, Tryd.ntmps14
      go_wp2_with (go_at_call 16; refine (amay_any _ _ _ _ _ f _ (h.gr (by repeat (first | exact Gr.refl _ | assumption | exact Dr.gr (by assumption) | refine Gr.alloc ?_ _ | refine Gr.drewN ?_ _ | refine Gr.drew ?_ | refine Gr.trans ?_ (by assumption) | refine Gr.trans ?_ (Dr.gr (by assumption)))))).mono ?_; rintro e w1 ⟨rfl, hg1⟩; rw [hmm]; obtain ⟨ho, hf, hs⟩ := hg1.old)
      exact bodyPost_ret (v := .tuple #[.agg #[.int .i64 0, .int .i64 0, .slice none 0 0], .bool false]) (by simp [results, Tryd.results14, go_sem, ho]) rfl ⟨rfl, (by repeat (first | exact Gr.refl _ | assumption | exact Dr.gr (by assumption) | refine Gr.alloc ?_ _ | refine Gr.drewN ?_ _ | refine Gr.drew ?_ | (refine Gr.set ?_ (by first | exact Nat.le_refl _ | exact Nat.le_succ _ | (show _ ≤ _; omega) | (simp only [World.size_alloc] at *; omega)) _) | refine Gr.trans ?_ (by assumption) | refine Gr.trans ?_ (Dr.gr (by assumption))))⟩
    · have hk' : countF W H ≤ s := by omega
      obtain ⟨R1, R2, hU, hUw⟩ := two_boxes w W H (.slice a n cap) 24 31
      have R2' := hide R2
      go_enter Tryd.func14, Tryd.ntmps14
      go_wp2_with (first | (go_at_call 16; refine (amay_any _ _ _ _ _ f _ (h.gr (by repeat (first | exact Gr.refl _ | assumption | exact Dr.gr (by assumption) | refine Gr.alloc ?_ _ | refine Gr.drewN ?_ _ | refine Gr.drew ?_ | refine Gr.trans ?_ (by assumption) | refine Gr.trans ?_ (Dr.gr (by assumption)))))).mono ?_; rintro e w1 ⟨rfl, hg1⟩; rw [hmm]; obtain ⟨ho, hf, hs⟩ := hg1.old) | (go_at_call 31; refine (asectors_any _ _ _).mono ?_; rintro e w2 ⟨rfl, hg2⟩; obtain ⟨e1, e2, e3, j1, j2, j3⟩ := row_cells (row_gr R2'.out (hg1.trans hg2))))
      exact bodyPost_ret (v := .tuple #[.agg #[.int .i64 0, .int .i64 0, .slice none 0 0], .bool false]) (by simp [results, Tryd.results14, go_sem, e1, e2, e3]) rfl ⟨rfl, gr_set3 (hUw.trans (hg1.trans hg2)) (by omega)⟩

set_option maxHeartbeats 2000000 in
theorem atile_yes (W H : Int) (a : Option Addr) (n cap : Nat) (f : Nat → Int) (s : Nat) (w : World) (h : Sl w a n f) (hc : n ≤ cap) (hm : mayM W H n f = true) (hs : s < cntS W H) :
    Calls Tryd.prog 14 #[.agg #[.int .i64 W, .int .i64 H, .slice a n cap], .int .i64 s] w fun e w' => (∃ g c', e = .returned (.tuple #[.agg #[.int .i64 (twF W s), .int .i64 (thF W H s), .slice (some ⟨g, 0, none⟩) (tnF W H s) c'], .bool true]) ∧ OwnB w' w.heap.size g (tnF W H s) c' (tileF W s f)) ∧ Gr w w' := by
  have hci := cntS_int W H
  have cb := count_bd W H
  have hk : (s : Int) < countF W H := by omega
  obtain ⟨R1, R2, hU, hUw⟩ := two_boxes w W H (.slice a n cap) 24 31
  have R2' := hide R2
  have R1' := hide R1
  have HK := hide (fun (u : World) (hu : Gr w u) => acut_any W H a n cap f s u (h.gr hu) hc hm hs)
  have hsz : w.heap.size + 1 < w.heap.size + 2 := by omega
  clear hci R1 R2
  go_enter Tryd.func14, Tryd.ntmps14
  go_wp2_with (first | (go_at_call 16; refine (amay_any _ _ _ _ _ f _ (h.gr (by repeat (first | exact Gr.refl _ | assumption | exact Dr.gr (by assumption) | refine Gr.alloc ?_ _ | refine Gr.drewN ?_ _ | refine Gr.drew ?_ | refine Gr.trans ?_ (by assumption) | refine Gr.trans ?_ (Dr.gr (by assumption)))))).mono ?_; rintro e w1 ⟨rfl, hg1⟩; rw [hm]; obtain ⟨d1, d2, d3, -, -, -⟩ := row_cells (row_gr R1'.out hg1)) | (go_at_call 31; refine (asectors_any _ _ _).mono ?_; rintro e w2 ⟨rfl, hg2⟩; replace d1 := cell_gr d1 hg2; replace d2 := cell_gr d2 hg2; replace d3 := cell_gr d3 hg2) | (go_at_call 33; refine (HK.out _ (hUw.trans (hg1.trans hg2))).mono ?_; rintro e w3 ⟨⟨g3, c3, rfl, ho3⟩, hg3⟩; obtain ⟨e1, e2, e3, j1, j2, j3⟩ := row_cells (row_gr R2'.out (hg1.trans (hg2.trans hg3)))))
  exact bodyPost_ret (v := .tuple #[.agg #[.int .i64 (twF W s), .int .i64 (thF W H s), .slice (some ⟨g3, 0, none⟩) (tnF W H s) c3], .bool true]) (by simp [results, Tryd.results14, go_sem, e1, e2, e3]) rfl ⟨⟨g3, c3, rfl, own_mono (own_set3 ho3.own (by have := hg1.size; have := hg2.size; omega)) (by have := hg1.size; have := hg2.size; omega), ho3.byte⟩, gr_set3 (hUw.trans (hg1.trans (hg2.trans hg3))) (by omega)⟩

end Go.Proofs.YtakmiafloolpmaaDoor
