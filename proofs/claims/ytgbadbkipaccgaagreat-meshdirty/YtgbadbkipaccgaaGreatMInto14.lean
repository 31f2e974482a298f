/- What leads into a node, as a mesh answers it: a row of its own. No condition. -/
import Derived.Test.YtgbadbkipaccgaaGreatMDist14
import Derived.Test.YtgbadbkipaccgaaGreatBCross11
namespace Go.Proofs.YtgbadbkipaccgaaGreat
open Go.RowKit
set_option maxRecDepth 20000

theorem make_edges (C : Nat) (hc : C ≤ 100000) (w : World) : (Instr.makeSlice 33 (.int .i64 0) (.int .i64 (C : Int))).run Tryz.prog w = .ok (.slice (some ⟨w.heap.size, 0, none⟩) 0 C) (w.alloc (.cells (madeCells #[.int .i64 0, .int .i64 0] (C * 2)) 56)) := by
  obtain ⟨i0, hi, hz0, hz1, hz2⟩ := info_parts info_edge
  have hr := run_make (P := Tryz.prog) w 33 56 i0 (.agg #[.int .i64 0, .int .i64 0]) Tryz.underlying33 hi hz0 .i64 .i64 0 C (by omega) (by omega) (by rw [hz2]; omega) (by omega)
  simp only [Int.toNat_natCast, hz1] at hr
  exact hr
theorem edges_made (w : World) (C : Nat) (hc : C ≤ 100000) : (w.alloc (.cells (madeCells #[.int .i64 0, .int .i64 0] (C * 2)) 56)).ownsRow w.heap.size 56 2 (.slice (some ⟨w.heap.size, 0, none⟩) 0 C) 0 (flatP []) :=
  ⟨rfl, .inr ⟨_, C, _, rfl, Nat.le_refl _, Go.Deep.blk_alloc_new _ _, Nat.zero_le _, by unfold maxLen; omega, by simp [madeCells], rfl⟩⟩
theorem nd_ne {L : List Nat} {i j : Nat} (hp : L.Pairwise (· < ·)) (hi : i < L.length) (hj : j < L.length) (h : i ≠ j) : ndI L i ≠ ndI L j := by
  rw [List.pairwise_iff_getElem] at hp
  unfold ndI
  rw [List.getD_eq_getElem?_getD, List.getD_eq_getElem?_getD, List.getElem?_eq_getElem hi, List.getElem?_eq_getElem hj]
  simp only [Option.getD_some]
  rcases Nat.lt_or_gt_of_ne h with k | k
  · have := hp i j hi hj k
    omega
  · have := hp j i hj hi k
    omega
theorem nd_next {L : List Nat} {j : Nat} (hj : j < L.length) : L.take (j + 1) = L.take j ++ [L.getD j 0] := by
  rw [List.take_add_one, List.getElem?_eq_getElem hj, List.getD_eq_getElem?_getD, List.getElem?_eq_getElem hj]
  rfl
/-- what is over a side of a node -/
theorem side_three {W H : Int} {N : Nat} {S : Nat → Int} {b : Int} (k : Nat) (hb : nodB W H N S b = true) :
    (nodB W H N S (stepF W H b k) = false ∧ opB N S (overF W H b k) = false) ∨
    (nodB W H N S (stepF W H b k) = true ∧ sectorF W (stepF W H b k) = sectorF W b ∧ opB N S (overF W H b k) = false) ∨
    (nodB W H N S (stepF W H b k) = true ∧ sectorF W (stepF W H b k) ≠ sectorF W b ∧ overF W H b k = stepF W H b k ∧ opB N S (overF W H b k) = true) := by
  by_cases h0 : 0 ≤ overF W H b k
  · obtain ⟨e, -, -, hn, -, -⟩ := over_is h0
    cases ho : opB N S (overF W H b k)
    · refine .inl ⟨?_, rfl⟩
      unfold nodB
      rw [← e, ho, Bool.false_and]
    · exact .inr (.inr ⟨by rw [← e]; exact (side_node hb ho).1, hn, e, rfl⟩)
  · have e := over_neg h0
    have ho : opB N S (overF W H b k) = false := by rw [e]; exact opB_neg _ _ _ (by omega)
    cases hn : nodB W H N S (stepF W H b k)
    · exact .inl ⟨rfl, ho⟩
    · refine .inr (.inl ⟨rfl, ?_, ho⟩)
      have hc : isCellB W H (stepF W H b k) = true := by
        cases q : isCellB W H (stepF W H b k)
        · unfold nodB at hn; rw [brdB_no q, Bool.and_false] at hn; cases hn
        · rfl
      by_cases q : sectorF W (stepF W H b k) = sectorF W b
      · exact q
      · exfalso
        have e2 : overF W H b k = stepF W H b k := by unfold overF; rw [if_pos ⟨hc, q⟩]
        have := ((isCellB_iff _ _ _).1 hc).2.1
        omega

set_option maxHeartbeats 4000000 in
theorem minto_any {w : World} {p q gp B : Nat} {W H : Int} {N : Nat} {S mv : Nat → Int} {cnt : Int} (h : Ms w p q gp B W H N S mv cnt) {c v cc : Nat} {f : Nat → Int} {ep : Int} {ver : Nat → Int} (g : Gd w gp c v W H N cc f ep ver) (b : Int) :
    Calls Tryz.prog 12 #[.pointer (some ⟨p, 0, none⟩), .int .i64 b] w fun e w' => (∃ v', e = .returned v' ∧ w'.ownsRow w.heap.size 56 2 v' (intoL W H N S f b).length (flatP (intoL W H N S f b))) ∧ Gr w w' := by
  obtain ⟨i0, hi, hz0, hz1, hz2⟩ := info_parts info_edge
  have HM := hide h
  have HG := hide g
  obtain ⟨hm, hN⟩ := h.may
  have hb0 := h.bd
  have HF := hide (mfind_any h g b)
  clear h g
  cases hb : nodB W H N S b
  · have e1 : fdP W H N S q b = none := by unfold fdP; rw [hb]; rfl
    rw [e1] at HF
    have e2 : intoL W H N S f b = [] := by unfold intoL; rw [if_neg (by rw [hb]; simp)]
    rw [e2]
    generalize fdK W H N S b = kb at HF
    clear e1 e2 hb hN
    go_enter Tryz.func12, Tryz.ntmps12
    go_wp2_with (go_at_call 34; refine (HF.out).mono ?_; rintro e w1 ⟨rfl, hg1⟩)
    go_ret
    exact ⟨⟨_, rfl, pairs_nil _ _ _⟩, hg1⟩
  · obtain ⟨s, hs, es, hk, hbk⟩ := fd_at hm hN hb
    have e1 : fdP W H N S q b = some ⟨q, s * 3, none⟩ := by unfold fdP; rw [hb, es]; rfl
    rw [e1] at HF
    have e2 : intoL W H N S f b = entL W H N S b (nodesL W H N S s) ++ sidL W H N S f b 4 := by unfold intoL; rw [if_pos hb, es]
    rw [e2]
    have HD := hide (fun u (k : Gr w u) j (hj : j < (nodesL W H N S s).length) => mdist_any (HM.out.gr k) hs hj hk)
    rw [← hbk] at HD
    have hrise := (nodesL_rise (N := N) (f := S) (sec_of hs)).1
    have h60 := nodes_sixty (N := N) (f := S) (sec_of hs)
    have HBD := hide (fun a => (dist_bd hm hN HM.out.byte HM.out.good a b).2)
    obtain ⟨y, hp, d0, d1, d2⟩ := HM.out.at hs
    have hlen := hp.nn
    have HP := hide hp.nodes
    have HNE := hide (fun j (hj : j < (nodesL W H N S s).length) (e : j ≠ fdK W H N S b) => nd_ne hrise hj hk e)
    rw [← hbk] at HNE
    have HS3 := hide (fun k => side_three (S := S) k hb)
    have hbN := (opB_iff _ _ _).1 (Bool.and_eq_true_iff.1 hb).1
    have hcost : gatF N f b = f b.toNat := by unfold gatF; rw [if_pos ⟨hbN.1, hbN.2.1⟩]
    have HC := hide hcost
    have HES := hide es
    have HBK := hide hbk
    generalize nodesL W H N S s = L at *
    generalize fdK W H N S b = kb at *
    obtain ⟨nn, hnn⟩ : ∃ nn, y.nn = nn := ⟨_, rfl⟩
    rw [hnn] at hlen HP d1
    have HLEN := hide hlen
    rw [hlen] at hk HD HNE h60
    obtain ⟨C, hC⟩ : ∃ C, C = nn + 1 := ⟨_, rfl⟩
    have hCw : IntKind.i64.wrap ((nn : Int) + 1) = (C : Int) := by rw [wrapI (by omega)]; omega
    have hC1 : C ≤ 100000 := by omega
    have hmk := fun u : World => make_edges C hC1 u
    have HCN := hide hC
    generalize y.na = na at *
    generalize y.nc = nc at *
    clear e1 e2 hb hN hp hrise d0 d2 es hbk hbN hcost hlen hnn hC
    go_enter Tryz.func12, Tryz.ntmps12
    go_upto_region 5 with (go_at_call 34; refine (HF.out).mono ?_; rintro e w1 ⟨rfl, hg1⟩; replace d1 := cell_gr d1 hg1)
    have hgm : Gr w1 (w1.alloc (.cells (madeCells #[.int .i64 0, .int .i64 0] (C * 2)) 56)) := (Gr.refl w1).alloc _
    have hown0 := edges_made w1 C hC1
    replace d1 := cell_gr d1 hgm
    have HG1 := hide hg1
    generalize (w1.alloc (.cells (madeCells #[.int .i64 0, .int .i64 0] (C * 2)) 56)) = w2 at *
    clear hmk hCw
    obtain ⟨eb, heb⟩ : ∃ eb, w1.heap.size = eb := ⟨_, rfl⟩
    rw [heb] at hown0 ⊢
    have HEB := hide heb
    clear heb hg1
    go_wp2_with fail
    have HGM := hide hgm
    clear hgm
    go_loopw [7, 37] (fun x i u => ∃ j : Nat, j ≤ nn ∧ i = .int .i64 j ∧ u.ownsRow eb 56 2 x (entL W H N S b (L.take j)).length (flatP (entL W H N S b (L.take j))) ∧ Gr w1 u) (fun _ i _ => nn - (intOf i).toNat)
    case atStart => exact ⟨0, Nat.zero_le _, rfl, hown0, HGM.out⟩
    case round =>
      obtain ⟨j, hj, rfl, hown, hgr⟩ := hrel
      clear hown0
      by_cases hlt : j < nn
      · have hjI : (j : Int) < (nn : Int) := by omega
        have hj0 : 0 ≤ (j : Int) := by omega
        have hgw := HG1.out.trans hgr
        obtain ⟨al, cl, e, hil⟩ := IlS.of_own (own_grI HP.out hgw) HLEN.out
        cases e
        obtain ⟨bb, o, rfl, hB, hcell⟩ := hil.at (by omega)
        have ck := hcell j hlt
        have HT := hide (nd_next (L := L) (j := j) (by rw [HLEN.out]; exact hlt))
        have hdist := HD.out
        have hbd := HBD.out (ndI L j)
        obtain ⟨a, hae⟩ : ∃ a, L.getD j 0 = a := ⟨_, rfl⟩
        have haI : ndI L j = (a : Int) := by unfold ndI; rw [hae]
        rw [haI] at hbd
        rw [hae] at ck HT
        have H2 := hide (fun u (k : Gr w u) => HD.out u k j hlt)
        have HN2 := hide (HNE.out j hlt)
        rw [haI] at H2 HN2
        have HAI := hide haI
        obtain ⟨D, hDe⟩ : ∃ D, distF W H N S a b = D := ⟨_, rfl⟩
        rw [hDe] at H2 hbd
        have HDE := hide hDe
        have HO := hide hown
        have HR := hide hgr
        have HW := hide hgw
        have cl2 := ent_len (W := W) (H := H) (N := N) (S := S) b (L.take j)
        have cl3 : (L.take j).length ≤ j := by rw [List.length_take]; omega
        clear hil hcell hae haI hDe hown hgr hgw hdist
        by_cases hjk : j = kb
        · subst hjk
          have hE : entL W H N S b (L.take (j + 1)) = entL W H N S b (L.take j) := by
            rw [HT.out]
            exact ent_no (.inl (by rw [← HAI.out]; exact HBK.out.symm))
          have HE := hide hE
          clear hE
          go_wp2_with (go_at_call 35; refine (H2.out _ HW.out).mono ?_; rintro e w3 ⟨rfl, hg3⟩)
          go_roundw
          case rel => exact ⟨j + 1, by omega, by go_num, by rw [HE.out]; exact own_grP HO.out hg3, HR.out.trans hg3⟩
          case measure => simp [intOf]; omega
        · have hjkI : ¬ (j : Int) = (kb : Int) := by omega
          by_cases hDI : D = 1099511627776
          · subst hDI
            have hE : entL W H N S b (L.take (j + 1)) = entL W H N S b (L.take j) := by
              rw [HT.out]
              exact ent_no (.inr (by rw [HDE.out]; omega))
            have HE := hide hE
            clear hE hbd
            go_wp2_with (go_at_call 35; refine (H2.out _ HW.out).mono ?_; rintro e w3 ⟨rfl, hg3⟩)
            exact ⟨⟨j + 1, by omega, by go_num, by rw [HE.out]; exact own_grP HO.out hg3, HR.out.trans hg3⟩, by simp [intOf]; omega⟩
          · have hE : entL W H N S b (L.take (j + 1)) = entL W H N S b (L.take j) ++ [((a : Int), D)] := by
              rw [HT.out, ent_yes (HN2.out hjk) (by rw [HDE.out]; omega), HDE.out]
            have HE := hide hE
            clear hE hbd
            go_wp2_with (first | (go_at_call 35; refine (H2.out _ HW.out).mono ?_; rintro e w3 ⟨rfl, hg3⟩; have HO2 := hide (own_grP HO.out hg3); have HR2 := hide (HR.out.trans hg3)) | (at_builtin; refine wpList_append_own _ rfl _ _ 33 rfl eb 56 i0 (.agg #[.int .i64 0, .int .i64 0]) 2 16 Tryz.underlying33 hi hz0 hz1 hz2 rfl (by decide) _ _ _ rfl (own_grP HO2.out ((Gr.refl _).alloc _)) ⟨w3.heap.size, 0, none⟩ 1 1 [.int .i64 a, .int .i64 D] rfl rfl (alloc_two _ _ _ _) (by simp [Value.oneCell']) (by unfold maxLen; omega) (by omega) (by have := HR2.out.size; have := HEB.out; simp only [World.size_alloc]; omega) ?_; intro v' w6 hown' hgrow hnil))
            rotate_left
            · rename_i hx
              simp [hjkI, hDI] at hx
            go_roundw
            case rel => exact ⟨j + 1, by omega, by go_num, by rw [HE.out, List.length_append, flatP_app]; exact hown', Gr.grown (HR2.out.alloc _) hgrow (fun q e => by rw [HEB.out]; exact (HO2.out.lt q e).1)⟩
            case measure => simp [intOf]; omega
      · obtain rfl : j = nn := by omega
        have ht : L.take j = L := List.take_of_length_le (by have := HLEN.out; omega)
        rw [ht] at hown
        have hgw := HG1.out.trans hgr
        have HGW := hide (HG.out.gr hgw)
        have HMW := hide (HM.out.gr hgw)
        obtain ⟨c0, -, -⟩ := HMW.out.cells
        have HO := hide hown
        have HR := hide hgr
        have cl2 := ent_len (W := W) (H := H) (N := N) (S := S) b L
        have hLl := HLEN.out
        clear hown hgr hgw ht
        go_wp2_with (go_at_call 36; refine (gsize_any HGW.out).mono ?_; rintro e w3 ⟨rfl, hg3⟩; replace c0 := cell_gr c0 hg3)
        have HO3 := hide (own_grP HO.out hg3)
        have HR3 := hide (HR.out.trans hg3)
        have HW3 := hide (HG1.out.trans (HR.out.trans hg3))
        obtain ⟨E, hE⟩ : ∃ E, entL W H N S b L = E := ⟨_, rfl⟩
        rw [hE] at HO3 cl2
        have HEE := hide hE
        clear HO HR hE
        go_loopw [7, 13] (fun x i u => ∃ k : Nat, k ≤ 4 ∧ i = .int .i64 k ∧ u.ownsRow eb 56 2 x (E ++ sidL W H N S f b k).length (flatP (E ++ sidL W H N S f b k)) ∧ Gr w1 u) (fun _ i _ => 4 - (intOf i).toNat)
        case atStart => exact ⟨0, Nat.zero_le _, rfl, by simpa [sidL] using HO3.out, HR3.out⟩
        case round =>
          obtain ⟨k, hk4, rfl, hown, hgr⟩ := hrel
          clear HO3 HR3 HGW HMW
          by_cases hlt : k < 4
          · have hkI : (k : Int) ≤ 3 := by omega
            have hgw := HG1.out.trans hgr
            have HGW := hide (HG.out.gr hgw)
            have HMW := hide (HM.out.gr hgw)
            have c0' := HMW.out.cells.1
            have cl3 := sid_len (W := W) (H := H) (N := N) (S := S) (f := f) b k
            have cl4 : (E ++ sidL W H N S f b k).length ≤ 64 := by rw [List.length_append]; omega
            have HO := hide hown
            have HR := hide hgr
            have h3 := HS3.out k
            obtain ⟨x, hx⟩ : ∃ x, stepF W H b k = x := ⟨_, rfl⟩
            rw [hx] at h3
            have HX := hide hx
            obtain ⟨o, ho⟩ : ∃ o, overF W H b k = o := ⟨_, rfl⟩
            rw [ho] at h3
            have HOV := hide ho
            have HFX := hide (fun u (k : Gr wr u) => mfind_any (HMW.out.gr k) (HGW.out.gr k) x)
            obtain ⟨kx, hkx⟩ : ∃ kx, fdK W H N S x = kx := ⟨_, rfl⟩
            rw [hkx] at HFX
            clear hown hgr hgw hx ho hkx
            rcases h3 with ⟨n1, n2⟩ | ⟨n1, n2, n3⟩ | ⟨n1, n2, n3, n4⟩
            · have hE : sidL W H N S f b (k + 1) = sidL W H N S f b k := sid_no (by rw [HOV.out]; exact n2)
              have hF : fdP W H N S q x = none := by unfold fdP; rw [n1]; rfl
              rw [hF] at HFX
              have HE := hide hE
              clear hE hF n1 n2
              go_wp2_with (first | (go_at_call 37; refine (step_any _ _ _ _ _).mono ?_; rintro e w4 ⟨rfl, hd4⟩; rw [HX.out]) | (go_at_call 34; refine (HFX.out _ hd4.gr).mono ?_; rintro e w5 ⟨rfl, hg5⟩; have hg45 := hd4.gr.trans hg5))
              exact ⟨⟨k + 1, by omega, by go_num, by rw [HE.out]; exact own_grP HO.out hg45, HR.out.trans hg45⟩, by simp [intOf]; omega⟩
            · have hE : sidL W H N S f b (k + 1) = sidL W H N S f b k := sid_no (by rw [HOV.out]; exact n3)
              have hF : fdP W H N S q x = some ⟨q, s * 3, none⟩ := by unfold fdP; rw [n1, n2, HES.out]; rfl
              rw [hF] at HFX
              have HE := hide hE
              have en := fun u => neq_ptr_same u ⟨q, s * 3, none⟩
              clear hE hF n1 n2 n3
              go_wp2_with (first | (go_at_call 37; refine (step_any _ _ _ _ _).mono ?_; rintro e w4 ⟨rfl, hd4⟩; rw [HX.out]) | (go_at_call 34; refine (HFX.out _ hd4.gr).mono ?_; rintro e w5 ⟨rfl, hg5⟩; have hg45 := hd4.gr.trans hg5))
              exact ⟨⟨k + 1, by omega, by go_num, by rw [HE.out]; exact own_grP HO.out hg45, HR.out.trans hg45⟩, by simp [intOf]; omega⟩
            · have hE : sidL W H N S f b (k + 1) = sidL W H N S f b k ++ [(x, f b.toNat)] := by rw [sid_yes (by rw [HOV.out]; exact n4), HOV.out, n3]
              obtain ⟨t, ht, et, -⟩ := fd_at hm HM.out.may.2 n1
              have hF : fdP W H N S q x = some ⟨q, t * 3, none⟩ := by unfold fdP; rw [n1, et]; rfl
              rw [hF] at HFX
              have HE := hide hE
              have hne : t * 3 ≠ s * 3 := by have := HES.out; omega
              obtain ⟨P, hr, -⟩ := HMW.out.parts
              have HRW := hide hr
              obtain ⟨z, hz⟩ : ∃ z, f b.toNat = z := ⟨_, rfl⟩
              have HC2 := hide (HC.out.trans hz)
              rw [hz] at HE
              clear hE hF n1 n2 n3 n4 ht et hr hz
              go_wp2_with (first | (go_at_call 37; refine (step_any _ _ _ _ _).mono ?_; rintro e w4 ⟨rfl, hd4⟩; rw [HX.out]) | (go_at_call 34; refine (HFX.out _ hd4.gr).mono ?_; rintro e w5 ⟨rfl, hg5⟩; have hg45 := hd4.gr.trans hg5; have en := neq_ptr_other (row_gr HRW.out hg45) hne; replace c0' := cell_gr c0' hg45) | (go_at_call 38; refine (gcost_dr (HGW.out.gr hg45) _).mono ?_; rintro e w6 ⟨rfl, hd6⟩; rw [HC2.out]; have hg46 := hg45.trans hd6.gr; have HO2 := hide (own_grP HO.out hg46); have HR2 := hide (HR.out.trans hg46)) | (at_builtin; refine wpList_append_own _ rfl _ _ 33 rfl eb 56 i0 (.agg #[.int .i64 0, .int .i64 0]) 2 16 Tryz.underlying33 hi hz0 hz1 hz2 rfl (by decide) _ _ _ rfl (own_grP HO2.out ((Gr.refl _).alloc _)) ⟨w6.heap.size, 0, none⟩ 1 1 [.int .i64 x, .int .i64 z] rfl rfl (alloc_two _ _ _ _) (by simp [Value.oneCell']) (by unfold maxLen; omega) (by omega) (by have := HR2.out.size; have := HEB.out; simp only [World.size_alloc]; omega) ?_; intro v' w7 hown' hgrow hnil))
              exact ⟨⟨k + 1, by omega, by go_num, by rw [HE.out, ← List.append_assoc, List.length_append, flatP_app]; exact hown', Gr.grown (HR2.out.alloc _) hgrow (fun q e => by rw [HEB.out]; exact (HO2.out.lt q e).1)⟩, by simp [intOf]; omega⟩
          · obtain rfl : k = 4 := by omega
            rw [← HEE.out] at hown
            go_wp2
            go_ret
            exact ⟨⟨_, rfl, ownP_base hown (by have := HEB.out; have := HG1.out.size; omega)⟩, HG1.out.trans hgr⟩
end Go.Proofs.YtgbadbkipaccgaaGreat
