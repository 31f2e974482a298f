/- What leads into a node, as the document reckons it: a row of its own, the same list. No condition. -/
import Derived.Test.YtgbadbkipaccgaaGreatMRDist14b
import Derived.Test.YtgbadbkipaccgaaGreatMInto14
import Derived.Test.YtgbadbkipaccgaaGreatMBuild14
namespace Go.Proofs.YtgbadbkipaccgaaGreat
open Go.RowKit
set_option maxRecDepth 20000

theorem edges_nil (w : World) (base : Nat) : w.ownsRow base 56 2 (.slice none 0 0) 0 (flatP []) := pairs_nil _ _ _

set_option maxHeartbeats 2000000 in
theorem rinto_any (W H : Int) (a : Option Addr) (n cap : Nat) (f : Nat → Int) (b : Int) (w : World) (h : Sl w a n f) (hm : mayM W H n f = true) :
    Calls Tryz.prog 21 #[.agg #[.int .i64 W, .int .i64 H, .slice a n cap], .int .i64 b] w fun e w' => (∃ v', e = .returned v' ∧ w'.ownsRow w.heap.size 56 2 v' (intoL W H n f f b).length (flatP (intoL W H n f f b))) ∧ Gr w w' := by
  obtain ⟨i0, hi, hz0, hz1, hz2⟩ := info_parts info_edge
  obtain ⟨hmb, hN, hf0⟩ := (mayM_iff _ _ _ _).1 hm
  have hga : Gr w (w.alloc (.cells #[.int .i64 W, .int .i64 H, .slice a n cap] 24)) := (Gr.refl w).alloc _
  have hB := tri_alloc w (.int .i64 W) (.int .i64 H) (.slice a n cap) 24
  obtain ⟨c1, c2, c3, -, -, -⟩ := row_cells hB
  have HIN := hide (fun u (k : Gr (w.alloc (.cells #[.int .i64 W, .int .i64 H, .slice a n cap] 24)) u) => risnode_any W H a n cap f b u (h.gr (hga.trans k)))
  cases hb : nodB W H n f b
  · have e2 : intoL W H n f f b = [] := by unfold intoL; rw [if_neg (by rw [hb]; simp)]
    rw [e2]
    rw [hb] at HIN
    clear e2 hb hf0 hN hm h
    go_enter Tryz.func21, Tryz.ntmps21
    go_wp2_with (go_at_call 44; refine (HIN.out _ (Gr.refl _)).mono ?_; rintro e w1 ⟨rfl, hg1⟩)
    go_ret
    exact ⟨⟨_, rfl, edges_nil _ _⟩, hga.trans hg1⟩
  · obtain ⟨m, s, j, rfl, b1, b2, b3, b4, b5, b6, b7, b8⟩ := node_at hmb hN hb
    have e2 : intoL W H n f f (m : Int) = entL W H n f (m : Int) (nodesL W H n f s) ++ sidL W H n f f (m : Int) 4 := by unfold intoL; rw [if_pos hb, b4]
    rw [e2]
    rw [hb] at HIN
    have hcx : isCellB W H (m : Int) = true := by rw [isCellB_iff]; exact ⟨hmb, by omega, by omega⟩
    have HS1 := hide (fun u => rsector_any W H (m : Int) u)
    rw [secF_yes hcx, b4] at HS1
    have HL1 := hide (fun u => rlocal_yes W H (m : Int) u hcx)
    rw [b5] at HL1
    have HTO := hide (fun u (k : Gr (w.alloc (.cells #[.int .i64 W, .int .i64 H, .slice a n cap] 24)) u) => rtileOf_any W H a n cap f s u (h.gr (hga.trans k)) hm b2)
    have HNO := hide (fun u (k : Gr (w.alloc (.cells #[.int .i64 W, .int .i64 H, .slice a n cap] 24)) u) => rnodes_any W H a n cap f (s : Int) u (h.gr (hga.trans k)))
    have HOP := hide (fun u (k : Gr (w.alloc (.cells #[.int .i64 W, .int .i64 H, .slice a n cap] 24)) u) x => ropen_any W H a n cap f x u (h.gr (hga.trans k)))
    have htb := tile_may hm (sec_of b2)
    have ho : tileF W s f j ≠ 255 := by unfold tileF; rw [b6]; exact b7
    have hrise := (nodesL_rise (N := n) (f := f) (sec_of b2)).1
    have h60 := nodes_sixty (N := n) (f := f) (sec_of b2)
    have HD : Hid (∀ d, Sprd (nearF (twF W s) (thF W H s) (tnF W H s) (tileF W s f)) (tileF W s f) (tnF W H s) (goalL (j : Int)) d → ∀ i, i < (nodesL W H n f s).length → ∃ l c : Nat, l < tnF W H s ∧ (nodesL W H n f s).getD i 0 = c ∧ isCellB W H (c : Int) = true ∧ localF W (c : Int) = (l : Int) ∧ distF W H n f (c : Int) (m : Int) = d l ∧ d l ≤ 1099511627776) := hide (fun d hd i hi => by
      obtain ⟨l, c, q1, q2, q3, q4, q5, q6, q7, q8, q9⟩ := nd_at (f := f) hN b2 hi
      refine ⟨l, c, q1, ?_, q8, q4, ?_, hd.top l q1⟩
      · unfold ndI at q3; omega
      · unfold distF
        rw [if_pos ⟨q6, hb, by omega⟩, b4, b5, q4, Int.toNat_natCast, Int.toNat_natCast, Int.toNat_natCast]
        exact sprF_eq hd q1)
    obtain ⟨bm, om, rfl, hBm, hcm⟩ := h.at (by omega)
    have hmv := hcm m b1
    have HTB := hide htb
    have HMV := hide (fun u (k : Gr w u) => cell_gr hmv k)
    have hfm := h.byte m b1
    generalize nodesL W H n f s = L at *
    generalize twF W s = TW at *
    generalize thF W H s = TH at *
    generalize tnF W H s = TN at *
    generalize tileF W s f = TF at *
    obtain ⟨nn, hnn⟩ : ∃ nn, L.length = nn := ⟨_, rfl⟩
    rw [hnn] at HD h60
    have HNN := hide hnn
    clear hnn
    have hmn : (m : Int) < (n : Int) := by omega
    have hm0 : 0 ≤ (m : Int) := by omega
    clear hB h hm hmb hN hf0 hb e2 hcx b1 b2 b4 b5 b6 b7 b8 htb hcm hmv hrise
    go_enter Tryz.func21, Tryz.ntmps21
    go_wp2_with (go_at_call 44; refine (HIN.out _ (Gr.refl _)).mono ?_; rintro e w1 ⟨rfl, hg1⟩; replace c1 := cell_gr c1 hg1; replace c2 := cell_gr c2 hg1; replace c3 := cell_gr c3 hg1)
    generalize (w.alloc (.cells #[.int .i64 W, .int .i64 H, .slice (some ⟨bm, om, none⟩) n cap] 24)) = u0 at *
    obtain ⟨B0, hBe⟩ : ∃ B0, w.heap.size = B0 := ⟨_, rfl⟩
    rw [hBe] at c1 c2 c3 ⊢
    go_region_held3 (fun z => z.cell? ⟨B0, 0, none⟩ = some (.int .i64 W) ∧ z.cell? ⟨B0, 1, none⟩ = some (.int .i64 H) ∧ z.cell? ⟨B0, 2, none⟩ = some (.slice (some ⟨bm, om, none⟩) n cap) ∧ Gr w1 z) ((refine keepG ⟨c1, c2, c3⟩ ?_; exact (by (repeat (first | (with_reducible exact Gr.refl _) | (with_reducible assumption) | (with_reducible refine Gr.alloc ?_ _) | (with_reducible refine Gr.drew ?_) | (with_reducible refine Gr.set ?_ (by dsimp only; omega) _) | (with_reducible refine Gr.trans ?_ (by with_reducible assumption)))); first | done | fail))) (first
      | (go_at_call 17; refine (HNO.out _ (hg1.trans (by (repeat (first | (with_reducible exact Gr.refl _) | (with_reducible assumption) | (with_reducible refine Gr.alloc ?_ _) | (with_reducible refine Gr.drew ?_) | (with_reducible refine Gr.set ?_ (by dsimp only; omega) _) | (with_reducible refine Gr.trans ?_ (by with_reducible assumption)))); first | done | fail))).mono ?_; rintro e w9 ⟨⟨v9, rfl, ho9⟩, hg9⟩; rw [HNN.out] at ho9; obtain ⟨al, cl, rfl, hil9⟩ := IlS.of_own ho9 HNN.out; have HIL := hide hil9; clear ho9 hil9)
      | (go_at_call 45; refine (HS1.out _).mono ?_; rintro e w7 ⟨rfl, hd7⟩; have hg7 := hd7.gr))
    obtain ⟨d1, d2, d3, hg19⟩ := ‹_ ∧ _ ∧ _ ∧ Gr w1 w9›
    have hg09 := hg1.trans hg19
    clear c1 c2 c3 hg9 hg7 hd7 hg19
    go_upto_region 5 with fail
    go_cut [7] from 25 (fun v u => TBox w9 u v TW TH TN TF)
    case first =>
      go_region_held3 (fun z => z.cell? ⟨B0, 0, none⟩ = some (.int .i64 W) ∧ z.cell? ⟨B0, 1, none⟩ = some (.int .i64 H) ∧ z.cell? ⟨B0, 2, none⟩ = some (.slice (some ⟨bm, om, none⟩) n cap) ∧ Gr w9 z) ((refine keepG ⟨d1, d2, d3⟩ ?_; exact (by (repeat (first | (with_reducible exact Gr.refl _) | (with_reducible assumption) | (with_reducible refine Gr.alloc ?_ _) | (with_reducible refine Gr.drew ?_) | (with_reducible refine Gr.set ?_ (by dsimp only; omega) _) | (with_reducible refine Gr.trans ?_ (by with_reducible assumption)))); first | done | fail))) (first
        | (go_at_call 46; have hS := ‹_ ∧ _ ∧ _ ∧ Gr w9 _›; refine (HTO.out _ (hg09.trans hS.2.2.2)).mono ?_; rintro e w8 ⟨⟨g8, c8, rfl, ho8⟩, hg8⟩; (try (have hbx : w8.rowIs w9.heap.size 83 3 (tri (.int .i64 0) (.int .i64 0) (.slice none 0 0)) := row_gr (w := w9.alloc (.cells #[.int .i64 0, .int .i64 0, .slice none 0 0] 83)) (tri_alloc w9 _ _ _ _) (by (repeat (first | (with_reducible exact Gr.refl _) | (with_reducible assumption) | (with_reducible refine Gr.alloc ?_ _) | (with_reducible refine Gr.drew ?_) | (with_reducible refine Gr.set ?_ (by dsimp only; omega) _) | (with_reducible refine Gr.trans ?_ (by with_reducible assumption)))); first | done | fail); obtain ⟨y1, y2, y3, y4, y5, y6⟩ := row_cells hbx)); (try (have hbx : w8.rowIs w7.heap.size 83 3 (tri (.int .i64 0) (.int .i64 0) (.slice none 0 0)) := row_gr (w := w7.alloc (.cells #[.int .i64 0, .int .i64 0, .slice none 0 0] 83)) (tri_alloc w7 _ _ _ _) (by (repeat (first | (with_reducible exact Gr.refl _) | (with_reducible assumption) | (with_reducible refine Gr.alloc ?_ _) | (with_reducible refine Gr.drew ?_) | (with_reducible refine Gr.set ?_ (by dsimp only; omega) _) | (with_reducible refine Gr.trans ?_ (by with_reducible assumption)))); first | done | fail); obtain ⟨y1, y2, y3, y4, y5, y6⟩ := row_cells hbx)))
        | (go_at_call 45; have hS := ‹_ ∧ _ ∧ _ ∧ Gr w9 _›; refine (HS1.out _).mono ?_; rintro e w7 ⟨rfl, hd9⟩; have hg9 := hd9.gr; have hsz7 : w9.heap.size ≤ w7.heap.size := Gr.size (a := w9) (by (repeat (first | (with_reducible exact Gr.refl _) | (with_reducible assumption) | (with_reducible refine Gr.alloc ?_ _) | (with_reducible refine Gr.drew ?_) | (with_reducible refine Gr.set ?_ (by dsimp only; omega) _) | (with_reducible refine Gr.trans ?_ (by with_reducible assumption)))); first | done | fail)))
      all_goals
        go_wp2_with fail
        go_meet
      all_goals first
        | exact tbox_A ho8 (by (repeat (first | (with_reducible exact Gr.refl _) | (with_reducible assumption) | (with_reducible refine Gr.alloc ?_ _) | (with_reducible refine Gr.drew ?_) | (with_reducible refine Gr.set ?_ (by dsimp only; omega) _) | (with_reducible refine Gr.trans ?_ (by with_reducible assumption)))); first | done | fail)
        | exact tbox_B (u := w9) rfl (Gr.refl _) (by (repeat (first | (with_reducible exact Gr.refl _) | (with_reducible assumption) | (with_reducible refine Gr.alloc ?_ _) | (with_reducible refine Gr.drew ?_) | (with_reducible refine Gr.set ?_ (by dsimp only; omega) _) | (with_reducible refine Gr.trans ?_ (by with_reducible assumption)))); first | done | fail) ho8 (Gr.size (by (repeat (first | (with_reducible exact Gr.refl _) | (with_reducible assumption) | (with_reducible refine Gr.alloc ?_ _) | (with_reducible refine Gr.drew ?_) | (with_reducible refine Gr.set ?_ (by dsimp only; omega) _) | (with_reducible refine Gr.trans ?_ (by with_reducible assumption)))); first | done | fail))
        | exact tbox_B (u := w7) rfl (by (repeat (first | (with_reducible exact Gr.refl _) | (with_reducible assumption) | (with_reducible refine Gr.alloc ?_ _) | (with_reducible refine Gr.drew ?_) | (with_reducible refine Gr.set ?_ (by dsimp only; omega) _) | (with_reducible refine Gr.trans ?_ (by with_reducible assumption)))); first | done | fail) hg8 ho8 (Nat.le_refl _)
    case rest =>
      obtain ⟨B7, g7, c7, rfl, hbx, hsl7, hg9c⟩ := hcut
      obtain ⟨t1, t2, t3, -, -, -⟩ := row_cells hbx
      replace d1 := cell_gr d1 hg9c
      replace d2 := cell_gr d2 hg9c
      replace d3 := cell_gr d3 hg9c
      have HG0C := hide (hg09.trans hg9c)
      have HGC := hide hg9c
      have HSL7 := hide hsl7
      clear hbx hsl7 hg09 hg9c
      go_wp2_with fail
      go_region_held3 (fun z => z.cell? ⟨B0, 0, none⟩ = some (.int .i64 W) ∧ z.cell? ⟨B0, 1, none⟩ = some (.int .i64 H) ∧ z.cell? ⟨B7, 0, none⟩ = some (.int .i64 TW) ∧ z.cell? ⟨B7, 1, none⟩ = some (.int .i64 TH) ∧ z.cell? ⟨B7, 2, none⟩ = some (.slice (some ⟨g7, 0, none⟩) TN c7) ∧ Gr wc z) ((refine keep5 ⟨d1, d2, t1, t2, t3⟩ ?_; exact (by (repeat (first | (with_reducible exact Gr.refl _) | (with_reducible assumption) | (with_reducible refine Gr.alloc ?_ _) | (with_reducible refine Gr.drew ?_) | (with_reducible refine Gr.set ?_ (by dsimp only; omega) _) | (with_reducible refine Gr.trans ?_ (by with_reducible assumption)))); first | done | fail))) (first
        | (go_at_call 47; refine (rspread_goal (v := j) (HSL7.out.gr (by (repeat (first | (with_reducible exact Gr.refl _) | (with_reducible assumption) | (with_reducible refine Gr.alloc ?_ _) | (with_reducible refine Gr.drew ?_) | (with_reducible refine Gr.set ?_ (by dsimp only; omega) _) | (with_reducible refine Gr.trans ?_ (by with_reducible assumption)))); first | done | fail)) HTB.out b3 ho (by (repeat (first | (with_reducible exact Gr.refl _) | (with_reducible assumption) | (with_reducible refine Gr.alloc ?_ _) | (with_reducible refine Gr.drew ?_) | (with_reducible refine Gr.set ?_ (by dsimp only; omega) _) | (with_reducible refine Gr.trans ?_ (by with_reducible assumption)))); first | done | fail)).mono ?_; rintro e w5 ⟨⟨g5, c5, F, rfl, hge, hfar, hsp⟩, hg5⟩)
        | (go_at_call 48; refine (HL1.out _).mono ?_; rintro e w6 ⟨rfl, hd6⟩; have hg6 := hd6.gr))
      have hc5 : Gr wc w5 := (by (repeat (first | (with_reducible exact Gr.refl _) | (with_reducible assumption) | (with_reducible refine Gr.alloc ?_ _) | (with_reducible refine Gr.drew ?_) | (with_reducible refine Gr.set ?_ (by dsimp only; omega) _) | (with_reducible refine Gr.trans ?_ (by with_reducible assumption)))); first | done | fail)
      replace d1 := cell_gr d1 hc5
      replace d2 := cell_gr d2 hc5
      replace d3 := cell_gr d3 hc5
      have HIL5 := hide (HIL.out.gr (HGC.out.trans hc5))
      have HG05 := hide (HG0C.out.trans hc5)
      have HDD := hide (HD.out F hsp)
      have HFAR := hide hfar
      clear hc5 hg5 hg6 hd6 hfar hsp hge HIL HGC HG0C HD t1 t2 t3 HSL7
      go_wp2_with fail
      go_loopw [5, 9] (fun x i u => ∃ k : Nat, k ≤ nn ∧ i = .int .i64 k ∧ u.ownsRow w5.heap.size 56 2 x (entL W H n f (m : Int) (L.take k)).length (flatP (entL W H n f (m : Int) (L.take k))) ∧ Gr w5 u) (fun _ i _ => nn - (intOf i).toNat)
      case atStart => exact ⟨0, Nat.zero_le _, rfl, edges_nil _ _, Gr.refl _⟩
      case round =>
        obtain ⟨k, hk, rfl, hown, hgr⟩ := hrel
        have HO := hide hown
        have HR := hide hgr
        have r1 := cell_gr d1 hgr
        have r2 := cell_gr d2 hgr
        by_cases hlt : k < nn
        · have hkI : (k : Int) < (nn : Int) := by omega
          have hk0 : 0 ≤ (k : Int) := by omega
          obtain ⟨l, c, hl, hLc, hcell, hloc, hdist, hle⟩ := HDD.out k hlt
          obtain ⟨bb, o, rfl, hbB, hcc⟩ := HIL5.out.at (by omega)
          have ck := cell_gr (hcc k hlt) hgr
          rw [hLc] at ck
          have e1 := cell_gr (HFAR.out.cell hl) hgr
          have HL2 := hide (fun u => rlocal_yes W H (c : Int) u hcell)
          rw [hloc] at HL2
          have HT := hide (nd_next (L := L) (j := k) (by rw [HNN.out]; exact hlt))
          rw [hLc] at HT
          obtain ⟨D, hD⟩ : ∃ D, F l = D := ⟨_, rfl⟩
          rw [hD] at e1 hdist hle
          have HDI := hide hdist
          have hlI : (l : Int) < (TN : Int) := by omega
          have hl0 : 0 ≤ (l : Int) := by omega
          have H2 : Hid (∀ u, Dr wr u → Calls Tryz.prog 48 #[.int .i64 W, .int .i64 H, .int .i64 c] u fun e w' => e = .returned (.int .i64 (l : Int)) ∧ Dr u w') := hide fun u _ => HL2.out u
          have cl2 := ent_len (W := W) (H := H) (N := n) (S := f) (m : Int) (L.take k)
          have cl3 : (L.take k).length ≤ k := by rw [List.length_take]; omega
          clear hown hgr hLc hcell hloc hdist hcc hD
          by_cases hcm : c = m
          · have HE := hide (show entL W H n f (m : Int) (L.take (k + 1)) = entL W H n f (m : Int) (L.take k) by rw [HT.out]; exact ent_no (.inl (by rw [hcm])))
            subst hcm
            go_wp2_with fail
            go_quiet ((go_at_call 48; refine Dr.quiet (H2.out _ ⟨_, rfl⟩)))
            go_wp2_with fail
            exact ⟨⟨k + 1, by omega, by go_num, by rw [HE.out]; exact own_grP HO.out ((Gr.refl _).drewN _), HR.out.drewN _⟩, by simp [intOf]; omega⟩
          · have hcmI : ¬ (c : Int) = (m : Int) := by omega
            by_cases hDI : D < 1099511627776
            · have HE := hide (show entL W H n f (m : Int) (L.take (k + 1)) = entL W H n f (m : Int) (L.take k) ++ [((c : Int), D)] by rw [HT.out, ent_yes hcmI (by rw [HDI.out]; exact hDI), HDI.out])
              go_wp2_with fail
              go_quiet ((go_at_call 48; refine Dr.quiet (H2.out _ ⟨_, rfl⟩)))
              have HO2 := hide (own_grP HO.out ((Gr.refl wr).drewN nq))
              have HR2 := hide (HR.out.drewN nq)
              go_wp2_with (at_builtin; refine wpList_append_own _ rfl _ _ 33 rfl w5.heap.size 56 i0 (.agg #[.int .i64 0, .int .i64 0]) 2 16 Tryz.underlying33 hi hz0 hz1 hz2 rfl (by decide) _ _ _ rfl (own_grP HO2.out ((Gr.refl _).alloc _)) ⟨(wr.drewN nq).heap.size, 0, none⟩ 1 1 [.int .i64 c, .int .i64 D] rfl rfl (alloc_two _ _ _ _) (by simp [Value.oneCell']) (by unfold maxLen; omega) (by omega) (by have := HR2.out.size; simp only [World.size_alloc]; omega) ?_; intro v' w6 hown' hgrow hnil)
              exact ⟨⟨k + 1, by omega, by go_num, by rw [HE.out, List.length_append, flatP_app]; exact hown', Gr.grown (HR2.out.alloc _) hgrow (fun q e => (HO2.out.lt q e).1)⟩, by simp [intOf]; omega⟩
            · have HE := hide (show entL W H n f (m : Int) (L.take (k + 1)) = entL W H n f (m : Int) (L.take k) by rw [HT.out]; exact ent_no (.inr (by rw [HDI.out]; exact hDI)))
              go_wp2_with fail
              go_quiet ((go_at_call 48; refine Dr.quiet (H2.out _ ⟨_, rfl⟩)))
              go_wp2_with fail
              exact ⟨⟨k + 1, by omega, by go_num, by rw [HE.out]; exact own_grP HO.out ((Gr.refl _).drewN _), HR.out.drewN _⟩, by simp [intOf]; omega⟩
        · obtain rfl : k = nn := by omega
          have ht : L.take k = L := List.take_of_length_le (by have := HNN.out; omega)
          rw [ht] at HO
          have hel := ent_len (W := W) (H := H) (N := n) (S := f) (m : Int) L
          rw [HNN.out] at hel
          obtain ⟨E, hE⟩ : ∃ E, entL W H n f (m : Int) L = E := ⟨_, rfl⟩
          rw [hE] at HO hel
          have HEE := hide hE
          have HCELL := hide (And.intro d1 (And.intro d2 d3))
          have r3 := cell_gr d3 hgr
          clear hown hgr ht hE d1 d2 d3 HIL5 HDD HFAR
          go_wp2_with fail
          go_loopw [5, 11] (fun x i u => ∃ k : Nat, k ≤ 4 ∧ i = .int .i64 k ∧ u.ownsRow w5.heap.size 56 2 x (E ++ sidL W H n f f (m : Int) k).length (flatP (E ++ sidL W H n f f (m : Int) k)) ∧ Gr w5 u) (fun _ i _ => 4 - (intOf i).toNat)
          case atStart => exact ⟨0, Nat.zero_le _, rfl, by simpa [sidL] using HO.out, HR.out⟩
          case round =>
            clear HO HR r1 r2 r3
            obtain ⟨k, hk4, rfl, hown, hgr⟩ := hrel
            obtain ⟨r1, r2, r3⟩ := HCELL.out
            replace r1 := cell_gr r1 hgr
            replace r2 := cell_gr r2 hgr
            replace r3 := cell_gr r3 hgr
            have HO := hide hown
            have HRR := hide hgr
            have HG1 := hide (HG05.out.trans hgr)
            by_cases hlt : k < 4
            · have hkI : (k : Int) ≤ 3 := by omega
              have cl3 := sid_len (W := W) (H := H) (N := n) (S := f) (f := f) (m : Int) k
              have cl4 : (E ++ sidL W H n f f (m : Int) k).length ≤ 64 := by rw [List.length_append]; omega
              obtain ⟨o, ho2⟩ : ∃ o, overF W H (m : Int) k = o := ⟨_, rfl⟩
              have HOV := hide ho2
              have hcm := HMV.out _ (hga.trans HG1.out)
              clear hown hgr ho2
              cases hop : opB n f o
              · have HE := hide (show sidL W H n f f (m : Int) (k + 1) = sidL W H n f f (m : Int) k from sid_no (by rw [HOV.out]; exact hop))
                go_wp2_with (first | (go_at_call 49; refine (rover_any _ _ _ _ _).mono ?_; rintro e w7 ⟨rfl, hd7⟩; rw [HOV.out]; have hg7 := hd7.gr; replace r1 := cell_gr r1 hg7; replace r2 := cell_gr r2 hg7; replace r3 := cell_gr r3 hg7) | (go_at_call 43; refine (HOP.out _ (HG1.out.trans hg7) o).mono ?_; rintro e w8 ⟨rfl, hg8⟩; rw [hop]; have hg78 := hg7.trans hg8))
                exact ⟨⟨k + 1, by omega, by go_num, by rw [HE.out]; exact own_grP HO.out hg78, HRR.out.trans hg78⟩, by simp [intOf]; omega⟩
              · have HE := hide (show sidL W H n f f (m : Int) (k + 1) = sidL W H n f f (m : Int) k ++ [(o, f m)] by rw [sid_yes (by rw [HOV.out]; exact hop), HOV.out, Int.toNat_natCast])
                obtain ⟨z, hz⟩ : ∃ z, f m = z := ⟨_, rfl⟩
                rw [hz] at HE hcm hfm
                have hwz : IntKind.i64.wrap z = z := wrapI (by omega)
                clear hz
                go_wp2_with (first | (go_at_call 49; refine (rover_any _ _ _ _ _).mono ?_; rintro e w7 ⟨rfl, hd7⟩; rw [HOV.out]; have hg7 := hd7.gr; replace r1 := cell_gr r1 hg7; replace r2 := cell_gr r2 hg7; replace r3 := cell_gr r3 hg7) | (go_at_call 43; refine (HOP.out _ (HG1.out.trans hg7) o).mono ?_; rintro e w8 ⟨rfl, hg8⟩; rw [hop]; have hg78 := hg7.trans hg8; replace r3 := cell_gr r3 hg8; replace hcm := cell_gr hcm hg78; have HO2 := hide (own_grP HO.out hg78); have HR2 := hide (HRR.out.trans hg78)) | (at_builtin; refine wpList_append_own _ rfl _ _ 33 rfl w5.heap.size 56 i0 (.agg #[.int .i64 0, .int .i64 0]) 2 16 Tryz.underlying33 hi hz0 hz1 hz2 rfl (by decide) _ _ _ rfl (own_grP HO2.out ((Gr.refl _).alloc _)) ⟨w8.heap.size, 0, none⟩ 1 1 [.int .i64 o, .int .i64 z] rfl rfl (alloc_two _ _ _ _) (by simp [Value.oneCell']) (by unfold maxLen; omega) (by omega) (by have := HR2.out.size; simp only [World.size_alloc]; omega) ?_; intro v' w9 hown' hgrow hnil))
                exact ⟨⟨k + 1, by omega, by go_num, by rw [HE.out, ← List.append_assoc, List.length_append, flatP_app]; exact hown', Gr.grown (HR2.out.alloc _) hgrow (fun q e => (HO2.out.lt q e).1)⟩, by simp [intOf]; omega⟩
            · obtain rfl : k = 4 := by omega
              rw [← HEE.out] at hown
              have hsz := HG1.out.size
              go_wp2
              go_ret
              exact ⟨⟨_, rfl, ownP_base hown (by have := hga.size; have := HG05.out.size; omega)⟩, hga.trans HG1.out⟩
end Go.Proofs.YtgbadbkipaccgaaGreat
