/- A mesh's build: a sector as the grid is. No condition. -/
import Derived.Test.YtgbadbkipaccgaaGreatMDirty14
import Derived.Test.YtgbadbkipaccgaaGreatCMake12
import Derived.Test.YtgbadbkipaccgaaGreatGTile
namespace Go.Proofs.YtgbadbkipaccgaaGreat
open Go.RowKit
set_option maxRecDepth 20000

section
variable {W H : Int} {N : Nat} {f : Nat → Int} {s : Nat}
theorem ndI_mem {L : List Nat} {i : Nat} (hi : i < L.length) : ∃ c : Nat, c ∈ L ∧ ndI L i = (c : Int) ∧ L[i]? = some c :=
  ⟨L[i], List.getElem_mem _, by unfold ndI; rw [List.getD_eq_getElem?_getD, List.getElem?_eq_getElem hi]; rfl, List.getElem?_eq_getElem hi⟩
/-- a node by its number -/
theorem nd_at (hN : (N : Int) = W * H) (hs : s < cntS W H) {i : Nat} (hi : i < (nodesL W H N f s).length) :
    ∃ l c : Nat, l < tnF W H s ∧ gcF W s l = c ∧ ndI (nodesL W H N f s) i = (c : Int) ∧ localF W (c : Int) = (l : Int) ∧ sectorF W (c : Int) = s ∧ nodB W H N f (c : Int) = true ∧ f c ≠ 255 ∧ isCellB W H (c : Int) = true ∧ (nodesL W H N f s)[i]? = some c := by
  obtain ⟨c, hc, e, e'⟩ := ndI_mem hi
  obtain ⟨n1, n2⟩ := (nodes_mem (sec_of hs)).1 hc
  have hm := ((isSectorB_iff _ _ _).1 (sec_of hs)).1
  obtain ⟨k, s', l, e1, a1, a2, a3, a4, a5, a6, a7, a8⟩ := node_at hm hN n1
  obtain rfl : k = c := by omega
  obtain rfl : s' = s := by omega
  exact ⟨l, k, a3, a6, e, a5, n2, n1, a7, by rw [isCellB_iff]; exact ⟨hm, by omega, by omega⟩, e'⟩
theorem nd_opn (hN : (N : Int) = W * H) (hs : s < cntS W H) {F : Nat → Int} (hF : ∀ i, i < (nodesL W H N f s).length → F i = localF W (ndI (nodesL W H N f s) i)) : Opn (tileF W s f) (tnF W H s) F (nodesL W H N f s).length := by
  refine ⟨fun i hi => ?_, fun i hi => ?_⟩
  · obtain ⟨l, c, hl, hg, e, el, es, hn, ho, hk, e'⟩ := nd_at (f := f) hN hs hi
    rw [hF i hi, e, el]
    refine ⟨by omega, by omega, ?_⟩
    unfold tileF
    rw [Int.toNat_natCast, hg]
    exact ho
  · obtain ⟨l, c, hl, hg, e, el, es, hn, ho, hk, e'⟩ := nd_at (f := f) hN hs (i := i) (by omega)
    obtain ⟨l2, c2, hl2, hg2, e2, el2, es2, hn2, ho2, hk2, e2'⟩ := nd_at (f := f) hN hs hi
    rw [hF i (by omega), hF (i + 1) hi, e, e2, el, el2]
    have hlt : c < c2 := by
      have hp := (nodesL_rise (N := N) (f := f) (sec_of hs)).1
      rw [List.pairwise_iff_getElem] at hp
      have := hp i (i + 1) (by omega) hi (by omega)
      rw [List.getElem?_eq_getElem (by omega)] at e' e2'
      have k1 := Option.some.inj e'
      have k2 := Option.some.inj e2'
      rw [k1, k2] at this
      exact this
    by_cases q : l < l2
    · omega
    · exfalso
      by_cases q2 : l = l2
      · subst q2; omega
      · have := gcF_mono (sec_of hs) hl (show l2 < l by omega)
        omega
theorem tab_dist (hN : (N : Int) = W * H) (hs : s < cntS W H) {F G : Nat → Int} (hF : ∀ i, i < (nodesL W H N f s).length → F i = localF W (ndI (nodesL W H N f s) i))
    (T : TabP (Col (nearF (twF W s) (thF W H s) (tnF W H s) (tileF W s f)) (tileF W s f) (tnF W H s)) F (nodesL W H N f s).length G (nodesL W H N f s).length) :
    (∀ i j, i < (nodesL W H N f s).length → j < (nodesL W H N f s).length → G (i * (nodesL W H N f s).length + j) = distF W H N f (ndI (nodesL W H N f s) i) (ndI (nodesL W H N f s) j)) ∧ GoodS W H N f s := by
  constructor
  · intro i j hi hj
    obtain ⟨d, d1, d2⟩ := T j hj
    obtain ⟨l, c, hl, hg, e, el, es, hn, ho, hk, -⟩ := nd_at (f := f) hN hs hi
    obtain ⟨l2, c2, hl2, hg2, e2, el2, es2, hn2, ho2, hk2, -⟩ := nd_at (f := f) hN hs hj
    rw [d2 i hi, hF i hi, e, e2, el, Int.toNat_natCast]
    rw [hF j hj, e2, el2, Int.toNat_natCast] at d1
    exact (dist_col hn hn2 es es2 el el2 hl d1).symm
  · intro l hl hn
    obtain ⟨-, -, q, q2⟩ := gcF_eq (sec_of hs) hl
    have hmem := (nodes_mem (N := N) (S := f) (sec_of hs)).2 ⟨hn, q⟩
    obtain ⟨j, hj, e⟩ := List.getElem_of_mem hmem
    obtain ⟨d, d1, -⟩ := T j hj
    refine ⟨d, ?_⟩
    have : ndI (nodesL W H N f s) j = (gcF W s l : Nat) := by
      unfold ndI
      rw [List.getD_eq_getElem?_getD, List.getElem?_eq_getElem hj, e]
      rfl
    rw [hF j hj, this, q2, Int.toNat_natCast] at d1
    exact d1
theorem tab_pos (hN : (N : Int) = W * H) (hb : Byt N f) (hs : s < cntS W H) {F G : Nat → Int} (hF : ∀ i, i < (nodesL W H N f s).length → F i = localF W (ndI (nodesL W H N f s) i))
    (T : TabP (Col (nearF (twF W s) (thF W H s) (tnF W H s) (tileF W s f)) (tileF W s f) (tnF W H s)) F (nodesL W H N f s).length G (nodesL W H N f s).length) : ∀ i, i < (nodesL W H N f s).length * (nodesL W H N f s).length → 0 ≤ G i := by
  intro i hi
  obtain ⟨p1, p2, p3⟩ := place_of hi
  rw [p3]
  exact (tab_bd (gph_sec hN hb (sec_of hs)) T (nd_opn hN hs hF) p1 p2).1
end
set_option maxHeartbeats 4000000 in
theorem mbuild_any {w : World} {p q gp B : Nat} {W H : Int} {N : Nat} {S mv : Nat → Int} {cnt : Int} (h : Ms w p q gp B W H N S mv cnt) {c v cc : Nat} {f : Nat → Int} {ep : Int} {ver : Nat → Int} (g : Gd w gp c v W H N cc f ep ver) {s : Nat} (hs : s < cntS W H) :
    Calls Tryz.prog 39 #[.pointer (some ⟨p, 0, none⟩), .int .i64 s] w fun e w' => (∃ x : Pc, e = .returned (.agg #[.int .i64 x.ver, .slice x.na x.nn x.nc, .slice x.ra x.rn x.rc]) ∧ Prt w' w.heap.size W H N f (ver s) s x ∧ GoodS W H N f s) ∧ Gr w w' := by
  obtain ⟨hm, hN⟩ := h.may
  obtain ⟨c0, -, -⟩ := h.cells
  have hs1 := sec_of hs
  have h60 := nodes_sixty (N := N) (f := f) hs1
  have HM := hide h
  have HG := hide g
  have hgm := g.may
  have hbyt : Byt N f := fun i hi => by
    have a := g.byte i hi
    have b := ((mayM_iff _ _ _ _).1 hgm).2.2 i hi
    omega
  have HB := hide hbyt
  have htb := tile_may hgm hs1
  have HTB := hide htb
  have HAT := hide (fun i (hi : i < (nodesL W H N f s).length) => nd_at (f := f) hN hs hi)
  have HNN := hide hN
  have hver : gatF (cntS W H) ver (s : Int) = ver s := by unfold gatF; rw [if_pos (by omega), Int.toNat_natCast]
  have HV := hide hver
  have HN2 := hide (fun (F : Nat → Int) (hF : ∀ i, i < (nodesL W H N f s).length → F i = localF W (ndI (nodesL W H N f s) i)) => nd_opn hN hs hF)
  have HTD := hide (fun (F G : Nat → Int) (hF : ∀ i, i < (nodesL W H N f s).length → F i = localF W (ndI (nodesL W H N f s) i)) T => And.intro (tab_dist hN hs (F := F) (G := G) hF T) (tab_pos hN hbyt hs (F := F) (G := G) hF T))
  have hga : Gr w (w.alloc (.cells #[.int .i64 0, .slice none 0 0, .slice none 0 0] 69)) := (Gr.refl w).alloc _
  have hbx := tri_alloc w (.int .i64 0) (.slice none 0 0) (.slice none 0 0) 69
  obtain ⟨L, hL⟩ : ∃ L, nodesL W H N f s = L := ⟨_, rfl⟩
  rw [hL] at HAT HN2 HTD h60
  have HL := hide hL
  obtain ⟨m, hml⟩ : ∃ m, L.length = m := ⟨_, rfl⟩
  rw [hml] at HAT HN2 HTD h60
  have HML := hide hml
  have hmk := fun u : World => make_rows m (by omega) u
  clear h g hgm hbyt htb hN hL hver hml
  go_enter Tryz.func39, Tryz.ntmps39
  have c0a := cell_gr c0 hga
  go_wp2_with fail
  replace c0 := c0a
  clear c0a
  have HG0 := hide (HG.out.gr hga)
  generalize (w.alloc (.cells #[.int .i64 0, .slice none 0 0, .slice none 0 0] 69)) = u0 at *
  obtain ⟨r0, hr0⟩ : ∃ r0, w.heap.size = r0 := ⟨_, rfl⟩
  rw [hr0] at hbx ⊢
  have HR0 := hide hr0
  clear hr0
  go_wp2_with (first | (go_at_call 36; refine (gsize_any HG0.out).mono ?_; rintro e w1 ⟨rfl, hg1⟩; replace c0 := cell_gr c0 hg1) | (go_at_call 63; refine (bnodes_any (HG0.out.gr hg1) s).mono ?_; rintro e w2 ⟨⟨v2, rfl, hown2⟩, hg2⟩; replace c0 := cell_gr c0 hg2; rw [HL.out, HML.out] at hown2; obtain ⟨al, cl, rfl, hil⟩ := IlS.of_own hown2 HML.out))
  have hg12 := hg1.trans hg2
  have hR := rows_made w2 m (by omega)
  have hg3 : Gr w2 (w2.alloc (.cells (madeCells #[.int .i64 0] m) 3)) := (Gr.refl w2).alloc _
  generalize (w2.alloc (.cells (madeCells #[.int .i64 0] m) 3)) = w3 at *
  obtain ⟨lb, hlb⟩ : ∃ lb, w2.heap.size = lb := ⟨_, rfl⟩
  rw [hlb] at hR ⊢
  have HIL := hide hil
  have HO := hide hown2
  have HG23 := hide hg3
  have hrl : r0 < lb := by have := hbx.lt; have := hg1.size; have := hg2.size; omega
  have hwl : w.heap.size ≤ w1.heap.size := by have := hga.size; have := hg1.size; omega
  have HHW1 := hide hwl
  have HRW1 : Hid (r0 < w1.heap.size) := hide (by have := hbx.lt; have := hg1.size; omega)
  replace hbx := row_gr hbx (hg12.trans hg3)
  replace c0 := cell_gr c0 hg3
  have HG3 := hide (HG0.out.gr (hg12.trans hg3))
  have hgr3 := (hga.trans hg12).trans hg3
  have hlw : w.heap.size ≤ lb := by have := hg2.size; omega
  clear hil hown2 hg1 hg2 hg3 hg12 hga HG0 hmk hwl
  go_loopw [34] (fun i u => ∃ (k : Nat) (F : Nat → Int), k ≤ m ∧ i = .int .i64 k ∧ FarS u lb m m F ∧ Hid (∀ i, i < k → F i = localF W (ndI L i)) ∧ Kp (fun b => b = lb) w3 u) (fun i _ => m - (intOf i).toNat)
  case atStart => exact ⟨0, _, Nat.zero_le _, rfl, hR, hide (fun i hi => absurd hi (Nat.not_lt_zero _)), Kp.refl _ _⟩
  case round =>
    obtain ⟨k, F, hk, rfl, hF, HF, hkp⟩ := hrel
    clear hR
    by_cases hlt : k < m
    · have hkI : (k : Int) < (m : Int) := by omega
      have hk0 : 0 ≤ (k : Int) := by omega
      obtain ⟨b, o, rfl, hB, hc⟩ := HIL.out.at (by omega)
      obtain ⟨l, x, hl, hg, e, el, es, hn, ho, hcell, -⟩ := HAT.out k hlt
      have ck := hkp.cell (cell_gr (hc k hlt) HG23.out) (by omega)
      have e' : ((L.getD k 0 : Nat) : Int) = (x : Int) := e
      rw [e'] at ck
      have HE := hide e
      have HLO := hide (fun u => local_yes W H (x : Int) u hcell)
      have y1 := hF.cell hlt
      have y2 := hF.frozen k
      clear hc hl hg e el es hn ho hcell e'
      go_wp2_with (go_at_call 64; refine (HLO.out _).mono ?_; rintro e w5 ⟨rfl, hd5⟩; have hF5 := hF.gr hd5.gr; have y1 := hF5.cell hlt; have y2 := hF5.frozen k)
      exact ⟨⟨k + 1, upF F k (localF W (x : Int)), by omega, by go_num, hF5.set k _, hide (fun i hi => by
        by_cases e : i = k
        · subst e; rw [upF_at, HE.out]
        · rw [upF_ne F _ e]; exact HF.out i (by omega)), (hkp.grb hd5.gr).set (.inl rfl) _⟩, by simp [intOf]; omega⟩
    · obtain rfl : k = m := by omega
      generalize wr = w6 at *
      have hgr6 : Gr w w6 := hkp.gr hgr3 (fun b e => by omega)
      have hg26 : Gr w2 w6 := hkp.gr HG23.out (fun b e => by omega)
      have hbx6 := hkp.row hbx (by omega)
      have HO6 := hide (own_grI HO.out hg26)
      have HG6 := hide (HG.out.gr hgr6)
      replace c0 := HM.out.cells.1
      replace c0 := cell_gr c0 hgr6
      have hopn := HN2.out F HF.out
      have hsl := hF.sli
      have hw6 : lb ≤ w6.heap.size := by have := hF.lt; omega
      clear hbx hkp hF hgr3 HG3 HO hg26
      go_upto_region 10 with (go_at_call 65; refine (gtile_yes HG6.out s hs).mono ?_; rintro e w7 ⟨⟨tg, tc, rfl, hown7⟩, hg7⟩; replace c0 := cell_gr c0 hg7)
      obtain ⟨d1, d2, d3⟩ := tri_at w7 (twF W s) (thF W H s) (.slice (some ⟨tg, 0, none⟩) (tnF W H s) tc)
      have hg8 : Gr w7 (w7.alloc (.cells #[.int .i64 (twF W s), .int .i64 (thF W H s), .slice (some ⟨tg, 0, none⟩) (tnF W H s) tc] 83)) := (Gr.refl w7).alloc _
      replace c0 := cell_gr c0 hg8
      have hg68 := hg7.trans hg8
      have hTS := hown7.sl.2.2.2.2.gr hg8
      replace hsl := hsl.gr hg68
      have hwb : w6.heap.size ≤ w7.heap.size := hg7.size
      generalize (w7.alloc (.cells #[.int .i64 (twF W s), .int .i64 (thF W H s), .slice (some ⟨tg, 0, none⟩) (tnF W H s) tc] 83)) = w8 at *
      generalize w7.heap.size = tb8 at *
      have HT8 := hide hTS
      have HS8 := hide hsl
      have HO8 := hide hopn
      clear hown7 hg7 hg8 hTS hsl hopn
      go_wp2_with (first | (go_at_call 66; refine (make_yes HT8.out HS8.out HTB.out HO8.out).mono ?_; rintro e w9 ⟨⟨tb, tcf, G, rfl, hge, hfar, htab⟩, hg9⟩; have hg69 := hg68.trans hg9; replace c0 := cell_gr c0 hg9) | (go_at_call 41; refine (gversion_dr (HG6.out.gr hg69) _).mono ?_; rintro e w10 ⟨rfl, hd10⟩; rw [HV.out]; have hg610 := hg69.trans hd10.gr; have hfar10 := hfar.gr hd10.gr) | (go_at_call 67; refine (packed_any hfar10 (Nat.mul_le_mul (show k ≤ 256 by omega) (show k ≤ 256 by omega)) (HTD.out F G HF.out htab).2).mono ?_; rintro e w11 ⟨⟨rb, rc, rfl, hrb, hrow⟩, hg11⟩; have hg611 := hg610.trans hg11; obtain ⟨e1, e2, e3, f1, f2, f3⟩ := row_cells (row_gr hbx6 hg611)))
      have hb11 := row_gr hbx6 hg611
      obtain ⟨y1, y2, y3, -⟩ := row_cells (row_set3 (u0 := .int .i64 (ver s)) (u1 := .slice al k cl) (u2 := .slice (some ⟨rb, 0, none⟩) (k * k) rc) hb11)
      have hkf : Kp (fun b => b = r0) w11 (((w11.setCell ⟨r0, 0, none⟩ (.int .i64 (ver s))).setCell ⟨r0, 1, none⟩ (.slice al k cl)).setCell ⟨r0, 2, none⟩ (.slice (some ⟨rb, 0, none⟩) (k * k) rc)) :=
        Kp.set (S := fun b => b = r0) (p := ⟨r0, 2, none⟩) (Kp.set (S := fun b => b = r0) (p := ⟨r0, 1, none⟩) (Kp.set (S := fun b => b = r0) (p := ⟨r0, 0, none⟩) (Kp.refl _ w11) (.inl rfl) _) (.inl rfl) _) (.inl rfl) _
      have hr0w := HR0.out
      have hgf := hkf.gr (hgr6.trans hg611) (fun b e => by omega)
      have hro := HRW1.out
      have hwo := HHW1.out
      have hs10 := hg610.size
      have hown := own_baseI (own_kpB (own_grI HO6.out hg611) hkf (fun b e => by omega)) hwo
      have hrowf := hrow.kp hkf (by omega)
      obtain ⟨⟨T1, T2⟩, -⟩ := HTD.out F G HF.out htab
      refine bodyPost_ret (v := .agg #[.int .i64 (ver s), .slice al k cl, .slice (some ⟨rb, 0, none⟩) (k * k) rc]) (by simp [results, Tryz.results39, go_sem, y1, y2, y3]) rfl ⟨⟨⟨ver s, al, k, cl, some ⟨rb, 0, none⟩, k * k, rc⟩, rfl, ⟨rfl, ?_, ⟨fun i => min (G i) 65535, .inr ⟨rb, rfl, by omega, hrowf⟩, fun i j hi hj => ?_⟩, rfl⟩, T2⟩, hgf⟩
      · rw [HL.out]
        exact hown
      · rw [HL.out]
        show min (G (i * k + j)) 65535 = _
        rw [T1 i j hi hj]
end Go.Proofs.YtgbadbkipaccgaaGreat
