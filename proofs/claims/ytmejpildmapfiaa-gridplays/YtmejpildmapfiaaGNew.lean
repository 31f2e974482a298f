/- What grid.New makes: nothing of a map or an epoch that may not be; else a grid of these costs, in memory of its own. -/
import Derived.Test.YtmejpildmapfiaaGEdit
import Derived.Deep.CutRange
namespace Go.Proofs.Ytmejpildmapfiaa
open Go.RowKit
set_option maxRecDepth 20000

theorem info_i64 : (Try.prog.info? 2).map (fun i => (i.zero, i.size, i.bytes)) = some (some (.int .i64 0), 1, 8) := by kernel_rfl
theorem make_vers (C : Nat) (hc : C ≤ 4096) (w : World) : (Instr.makeSlice 31 (.int .i64 (C : Int)) (.int .i64 (C : Int))).run Try.prog w = .ok (.slice (some ⟨w.heap.size, 0, none⟩) C C) (w.alloc (.cells (madeCells #[.int .i64 0] C) 2)) := by
  obtain ⟨i0, hi, hz0, hz1, hz2⟩ := info_parts info_i64
  have hr := run_make (P := Try.prog) w 31 2 i0 (.int .i64 0) Try.underlying31 hi hz0 .i64 .i64 C C (by omega) (by omega) (by rw [hz2]; omega) (by omega)
  simp only [Int.toNat_natCast, hz1, Nat.mul_one] at hr
  exact hr

set_option maxHeartbeats 2000000 in
theorem copied_any (W H : Int) (a : Option Addr) (n cap : Nat) (f : Nat → Int) (w : World) (h : Sl w a n f) (hn : 0 < n) (hbig : n ≤ 1048576) :
    Calls Try.prog 32 #[.agg #[.int .i64 W, .int .i64 H, .slice a n cap]] w fun e w' => (∃ g c', e = .returned (.agg #[.int .i64 W, .int .i64 H, .slice (some ⟨g, 0, none⟩) n c']) ∧ OwnB w' w.heap.size g n c' f) ∧ Gr w w' := by
  obtain ⟨R1, R2, hU, hUw⟩ := two_boxes w W H (.slice a n cap) 25 25
  have HB := hide h.byte
  go_enter Try.func32, Try.ntmps32
  go_wp2_with fail
  generalize ((w.alloc (.cells #[.int .i64 W, .int .i64 H, .slice a n cap] 25)).alloc (.cells #[.int .i64 0, .int .i64 0, .slice none 0 0] 25)) = U at *
  obtain ⟨d1, d2, d3, -, -, -⟩ := row_cells R1
  have HR := hide R2
  clear R1 R2
  go_region_held3 (fun z => z.cell? ⟨w.heap.size, 0, none⟩ = some (.int .i64 W) ∧ z.cell? ⟨w.heap.size, 1, none⟩ = some (.int .i64 H) ∧ z.cell? ⟨w.heap.size, 2, none⟩ = some (.slice a n cap)) (first | exact ⟨d1, d2, d3⟩ | exact ⟨e1, e2, e3⟩ | exact ⟨cell_far3 e1 (by omega), cell_far3 e2 (by omega), cell_far3 e3 (by omega)⟩) ((go_at_call 47; refine (clone_any _ _ _ f _ (h.gr hUw.drew) hn (by omega)).mono ?_; rintro e w9 ⟨⟨g, c', rfl, ho9, hb9⟩, hd9⟩; have hg9 := (Gr.refl U).drew.trans hd9; clear hd9; have e1 := cell_gr d1 hg9; have e2 := cell_gr d2 hg9; have e3 := cell_gr d3 hg9; obtain ⟨x1, x2, x3, j1, j2, j3⟩ := row_cells (row_gr HR.out hg9)))
  go_wp2
  have hs : U.drew.heap.size = w.heap.size + 2 := hU
  exact bodyPost_ret (v := .agg #[.int .i64 W, .int .i64 H, .slice (some ⟨g, 0, none⟩) n c']) (by simp [results, Try.results32, go_sem, x1, x2, x3]) rfl ⟨⟨g, c', rfl, own_mono (own_set3 ho9 (by omega)) (by omega), HB.out⟩, gr_set3 (hUw.trans hg9) (by omega)⟩

set_option maxHeartbeats 1000000 in
theorem gnew_no (W H : Int) (a : Option Addr) (n cap : Nat) (f : Nat → Int) (ep : Int) (w : World) (h : Sl w a n f) (hm : mayM W H n f = false ∨ ep < 0 ∨ 4611686018427387904 < ep) :
    Calls Try.prog 10 #[.agg #[.int .i64 W, .int .i64 H, .slice a n cap], .int .i64 ep] w fun e w' => e = .returned (.pointer none) ∧ Gr w w' := by
  cases hmm : mayM W H n f
  · go_enter Try.func10, Try.ntmps10
    go_wp2_with (go_at_call 30; refine (amay_any _ _ _ _ _ f _ (h.gr (by repeat (first | exact Gr.refl _ | assumption | exact Dr.gr (by assumption) | refine Gr.alloc ?_ _ | refine Gr.drewN ?_ _ | refine Gr.drew ?_ | refine Gr.trans ?_ (by assumption) | refine Gr.trans ?_ (Dr.gr (by assumption)))))).mono ?_; rintro e w1 ⟨rfl, hg1⟩; rw [hmm])
    go_ret
    exact ⟨rfl, (by repeat (first | exact Gr.refl _ | assumption | exact Dr.gr (by assumption) | refine Gr.alloc ?_ _ | refine Gr.drewN ?_ _ | refine Gr.drew ?_ | refine Gr.trans ?_ (by assumption) | refine Gr.trans ?_ (Dr.gr (by assumption))))⟩
  by_cases he : ep < 0
  · clear hm
    go_enter Try.func10, Try.ntmps10
    go_wp2_with (go_at_call 30; refine (amay_any _ _ _ _ _ f _ (h.gr (by repeat (first | exact Gr.refl _ | assumption | exact Dr.gr (by assumption) | refine Gr.alloc ?_ _ | refine Gr.drewN ?_ _ | refine Gr.drew ?_ | refine Gr.trans ?_ (by assumption) | refine Gr.trans ?_ (Dr.gr (by assumption)))))).mono ?_; rintro e w1 ⟨rfl, hg1⟩; rw [hmm])
    go_ret
    exact ⟨rfl, (by repeat (first | exact Gr.refl _ | assumption | exact Dr.gr (by assumption) | refine Gr.alloc ?_ _ | refine Gr.drewN ?_ _ | refine Gr.drew ?_ | refine Gr.trans ?_ (by assumption) | refine Gr.trans ?_ (Dr.gr (by assumption))))⟩
  · have he2 : 4611686018427387904 < ep := by
      rcases hm with hm | hm | hm
      · rw [hm] at hmm; cases hmm
      · omega
      · exact hm
    clear hm
    go_enter Try.func10, Try.ntmps10
    go_wp2_with (go_at_call 30; refine (amay_any _ _ _ _ _ f _ (h.gr (by repeat (first | exact Gr.refl _ | assumption | exact Dr.gr (by assumption) | refine Gr.alloc ?_ _ | refine Gr.drewN ?_ _ | refine Gr.drew ?_ | refine Gr.trans ?_ (by assumption) | refine Gr.trans ?_ (Dr.gr (by assumption)))))).mono ?_; rintro e w1 ⟨rfl, hg1⟩; rw [hmm])
    go_ret
    exact ⟨rfl, (by repeat (first | exact Gr.refl _ | assumption | exact Dr.gr (by assumption) | refine Gr.alloc ?_ _ | refine Gr.drewN ?_ _ | refine Gr.drew ?_ | refine Gr.trans ?_ (by assumption) | refine Gr.trans ?_ (Dr.gr (by assumption))))⟩

theorem keepG {u z : World} {b : Nat} {x y v : Value} (h : u.cell? ⟨b, 0, none⟩ = some x ∧ u.cell? ⟨b, 1, none⟩ = some y ∧ u.cell? ⟨b, 2, none⟩ = some v) (g : Gr u z) : z.cell? ⟨b, 0, none⟩ = some x ∧ z.cell? ⟨b, 1, none⟩ = some y ∧ z.cell? ⟨b, 2, none⟩ = some v ∧ Gr u z :=
  ⟨cell_gr h.1 g, cell_gr h.2.1 g, cell_gr h.2.2 g, g⟩
theorem cell2_far {w : World} {p q s i0 i1 : Nat} {x0 x1 x : Value} (h : w.cell? ⟨p, i0, none⟩ = some x0 ∧ w.cell? ⟨p, i1, none⟩ = some x1) (hq : p ≠ q) :
    (w.setCell ⟨q, s, none⟩ x).cell? ⟨p, i0, none⟩ = some x0 ∧ (w.setCell ⟨q, s, none⟩ x).cell? ⟨p, i1, none⟩ = some x1 := by
  rw [World.cell?_setCell_far _ _ _ _ (by exact fun e => hq e.symm), World.cell?_setCell_far _ _ _ _ (by exact fun e => hq e.symm)]
  exact h
theorem Row.made (w : World) (C : Nat) : Row (w.alloc (.cells (madeCells #[.int .i64 0] C) 2)) w.heap.size 2 .i64 C (fun _ => 0) := Row.of_is (World.rowIs_made w (.int .i64 0) C 2)
theorem Gd.born {z : World} {W H : Int} {n c v cc base : Nat} {f : Nat → Int} {ep : Int} (hc : OwnB z base c n cc f) (hv : Row z v 2 .i64 (cntS W H) (fun _ => 0)) (hcv : c ≠ v) (hm : mayM W H n f = true) :
    Gd (z.alloc (.cells #[.int .i64 W, .int .i64 H, .slice (some ⟨c, 0, none⟩) n cc, .int .i64 ep, .slice (some ⟨v, 0, none⟩) (cntS W H) (cntS W H)] 58)) z.heap.size c v W H n cc f ep (fun _ => 0) := by
  have g := (Gr.refl z).alloc (.cells #[.int .i64 W, .int .i64 H, .slice (some ⟨c, 0, none⟩) n cc, .int .i64 ep, .slice (some ⟨v, 0, none⟩) (cntS W H) (cntS W H)] 58)
  obtain ⟨q1, q2, q3, q4, -⟩ := hc.sl
  have := hv.lt
  exact ⟨pen_alloc z _ _ _ _ _ _, (Row.of_own hc.own).gr g, hv.gr g, hc.byte, hm, ⟨q1, q2⟩, by omega, by omega, hcv⟩
theorem Gd.setVer {w : World} {p c v : Nat} {W H : Int} {N cc : Nat} {f : Nat → Int} {ep : Int} {ver : Nat → Int} (h : Gd w p c v W H N cc f ep ver) (s : Nat) (x : Int) : Gd (w.setCell ⟨v, s, none⟩ (.int .i64 x)) p c v W H N cc f ep (putF ver s x) :=
  ⟨h.box.setOther (a := ⟨v, s, none⟩) h.apart.2.1 _, h.cost.setOther (a := ⟨v, s, none⟩) h.apart.2.2 _, h.vers.set s x, h.byte, h.may, h.cap, h.apart⟩
theorem Gd.congrV {w : World} {p c v : Nat} {W H : Int} {N cc : Nat} {f : Nat → Int} {ep : Int} {ver ver' : Nat → Int} (h : Gd w p c v W H N cc f ep ver) (e : ∀ i, i < cntS W H → ver i = ver' i) : Gd w p c v W H N cc f ep ver' :=
  ⟨h.box, h.cost, h.vers.congr e, h.byte, h.may, h.cap, h.apart⟩

theorem new_A {w w2 w9 : World} {W H : Int} {n g cc base : Nat} {f : Nat → Int} {ep : Int} (ho : OwnB w9 base g n cc f) (hw : Gr w w9) (h2 : Gr w w2) (hm : mayM W H n f = true) (hb : base = w2.heap.size := by rfl) :
    ∃ p c v cc', Value.pointer (some ⟨w9.heap.size + 1, 0, none⟩) = Value.pointer (some ⟨p, 0, none⟩) ∧ Gd ((w9.alloc (.cells (madeCells #[.int .i64 0] (cntS W H)) 2)).alloc (.cells #[.int .i64 W, .int .i64 H, .slice (some ⟨g, 0, none⟩) n cc, .int .i64 ep, .slice (some ⟨w9.heap.size, 0, none⟩) (cntS W H) (cntS W H)] 58)) p c v W H n cc' f ep (fun _ => 0) ∧ w.heap.size ≤ p ∧ w.heap.size ≤ c ∧ w.heap.size ≤ v ∧
      Gr w ((w9.alloc (.cells (madeCells #[.int .i64 0] (cntS W H)) 2)).alloc (.cells #[.int .i64 W, .int .i64 H, .slice (some ⟨g, 0, none⟩) n cc, .int .i64 ep, .slice (some ⟨w9.heap.size, 0, none⟩) (cntS W H) (cntS W H)] 58)) := by
  obtain ⟨q1, q2, q3, q4, -⟩ := ho.sl
  have s1 := hw.size
  have s2 := h2.size
  have := Gd.born (W := W) (H := H) (v := w9.heap.size) (ep := ep) (ho.gr ((Gr.refl w9).alloc _)) (Row.made w9 (cntS W H)) (by omega) hm
  rw [World.size_alloc] at this
  exact ⟨_, g, w9.heap.size, cc, rfl, this, by omega, by omega, by omega, (hw.alloc _).alloc _⟩
theorem new_B {w w2 w9 : World} {W H : Int} {n g cc base : Nat} {f : Nat → Int} {ep : Int} (ho : OwnB w9 base g n cc f) (hg : Gr (w2.drew.alloc (.cells (madeCells #[.int .i64 0] (cntS W H)) 2)) w9) (h2 : Gr w w2) (hm : mayM W H n f = true) (hb : base = (w2.drew.alloc (.cells (madeCells #[.int .i64 0] (cntS W H)) 2)).heap.size := by rfl) :
    ∃ p c v cc', Value.pointer (some ⟨w9.heap.size, 0, none⟩) = Value.pointer (some ⟨p, 0, none⟩) ∧ Gd (w9.alloc (.cells #[.int .i64 W, .int .i64 H, .slice (some ⟨g, 0, none⟩) n cc, .int .i64 ep, .slice (some ⟨w2.heap.size, 0, none⟩) (cntS W H) (cntS W H)] 58)) p c v W H n cc' f ep (fun _ => 0) ∧ w.heap.size ≤ p ∧ w.heap.size ≤ c ∧ w.heap.size ≤ v ∧
      Gr w (w9.alloc (.cells #[.int .i64 W, .int .i64 H, .slice (some ⟨g, 0, none⟩) n cc, .int .i64 ep, .slice (some ⟨w2.heap.size, 0, none⟩) (cntS W H) (cntS W H)] 58)) := by
  obtain ⟨q1, q2, q3, q4, -⟩ := ho.sl
  have s1 := hg.size
  have s2 := h2.size
  have s3 : (w2.drew.alloc (.cells (madeCells #[.int .i64 0] (cntS W H)) 2)).heap.size = w2.heap.size + 1 := World.size_alloc _ _
  have hr := (Row.made w2.drew (cntS W H)).gr hg
  exact ⟨_, g, w2.heap.size, cc, rfl, Gd.born ho hr (by show g ≠ w2.heap.size; omega) hm, by omega, by omega, by omega, ((h2.drew.alloc _).trans hg).alloc _⟩

set_option maxHeartbeats 4000000 in
theorem gnew_yes (W H : Int) (a : Option Addr) (n cap : Nat) (f : Nat → Int) (ep : Int) (w : World) (h : Sl w a n f) (hm : mayM W H n f = true) (he : 0 ≤ ep ∧ ep ≤ 4611686018427387904) :
    Calls Try.prog 10 #[.agg #[.int .i64 W, .int .i64 H, .slice a n cap], .int .i64 ep] w fun e w' => (∃ p c v cc, e = .returned (.pointer (some ⟨p, 0, none⟩)) ∧ Gd w' p c v W H n cc f (ep + 1) (fun _ => ep + 1) ∧ w.heap.size ≤ p ∧ w.heap.size ≤ c ∧ w.heap.size ≤ v) ∧ Gr w w' := by
  obtain ⟨hmb, hN, hf0⟩ := (mayM_iff _ _ _ _).1 hm
  have mm := may_mul hmb
  have hn1 : 0 < n := by omega
  have hn6 : n ≤ 1048576 := by omega
  obtain ⟨hC1, hC2, hC3⟩ := cntS_eq hmb
  have hmk := fun u : World => make_vers (cntS W H) hC3 u
  have HSE := hide (fun u => sectors_yes W H u hmb)
  have HM := hide hm
  rw [hC1] at hmk
  generalize acrossF W = A at *
  generalize acrossF H = D at *
  have hAD : 0 ≤ A * D ∧ A * D ≤ 4096 := by omega
  have hw1 : IntKind.i64.wrap (A * D) = A * D := wrapI (by omega)
  have hw2 : IntKind.i64.wrap (ep + 1) = ep + 1 := wrapI (by omega)
  have hU : (w.alloc (.cells #[.int .i64 W, .int .i64 H, .slice a n cap] 25)).heap.size = w.heap.size + 1 := World.size_alloc _ _
  have hUw : Gr w (w.alloc (.cells #[.int .i64 W, .int .i64 H, .slice a n cap] 25)) := (Gr.refl w).alloc _
  have R1 := tri_alloc w (.int .i64 W) (.int .i64 H) (.slice a n cap) 25
  have HC1 := hide hC1
  clear hC1 hN hf0 mm
  go_enter Try.func10, Try.ntmps10
  go_wp2_with (first | (go_at_call 30; refine (amay_any _ _ _ _ _ f _ (h.gr (by repeat (first | exact Gr.refl _ | assumption | exact Dr.gr (by assumption) | refine Gr.alloc ?_ _ | refine Gr.drewN ?_ _ | refine Gr.drew ?_ | refine Gr.trans ?_ (by assumption) | refine Gr.trans ?_ (Dr.gr (by assumption)))))).mono ?_; rintro e w1 ⟨rfl, hg1⟩; rw [HM.out]; obtain ⟨d1, d2, d3, -, -, -⟩ := row_cells (row_gr R1 hg1)) | (go_at_call 31; refine (HSE.out _).mono ?_; rintro e w2 ⟨rfl, hd2⟩; have hg2 := Dr.gr hd2; clear hd2; replace d1 := cell_gr d1 hg2; replace d2 := cell_gr d2 hg2; replace d3 := cell_gr d3 hg2))
  have hgw := hUw.trans (hg1.trans hg2)
  have hsz := (hg1.trans hg2).size
  generalize (w.alloc (.cells #[.int .i64 W, .int .i64 H, .slice a n cap] 25)) = U at *
  have HCP := hide (fun u (hu : Gr w2 u) => copied_any W H a n cap f u (h.gr (hgw.trans hu)) hn1 hn6)
  have HGW := hide hgw
  clear hgw hg1 hg2
  go_cut [7] from 38 (fun g u => ∃ p c v cc, g = .pointer (some ⟨p, 0, none⟩) ∧ Gd u p c v W H n cc f (ep + 1) (fun _ => 0) ∧ w.heap.size ≤ p ∧ w.heap.size ≤ c ∧ w.heap.size ≤ v ∧ Gr w u)
  case first =>
    go_region_held3 (fun z => z.cell? ⟨w.heap.size, 0, none⟩ = some (.int .i64 W) ∧ z.cell? ⟨w.heap.size, 1, none⟩ = some (.int .i64 H) ∧ z.cell? ⟨w.heap.size, 2, none⟩ = some (.slice a n cap) ∧ Gr w2 z) ((refine keepG ⟨d1, d2, d3⟩ ?_; exact (by (repeat (first | (with_reducible exact Gr.refl _) | (with_reducible assumption) | (with_reducible refine Gr.alloc ?_ _) | (with_reducible refine Gr.drew ?_) | (with_reducible refine Gr.set ?_ (by dsimp only; omega) _) | (with_reducible refine Gr.trans ?_ (by with_reducible assumption)))); first | done | fail))) ((go_at_call 32; have hS := ‹_ ∧ _ ∧ _ ∧ Gr w2 _›; refine (HCP.out _ hS.2.2.2).mono ?_; rintro e w9 ⟨⟨g, c', rfl, ho9⟩, hg9⟩))
    all_goals
      go_wp2_with fail
      go_meet
    · exact new_A ho9 (HGW.out.trans (((Gr.refl w2).drew).trans hg9)) HGW.out HM.out
    · exact new_B ho9 hg9 HGW.out HM.out
  case rest =>
    obtain ⟨p, c, v, cc, rfl, hgd, hp, hc, hv, hgu⟩ := hcut
    have HG := hide hgd
    obtain ⟨c0, c1, c2, c3, c4⟩ := hgd.cells
    clear hgd d1 d2 d3
    go_wp2_with fail
    go_loopw [43] (fun i z => ∃ k : Nat, k ≤ cntS W H ∧ i = .int .i64 k ∧ Gd z p c v W H n cc f (ep + 1) (fun j => if j < k then ep + 1 else 0) ∧ Gr w z) (fun i _ => cntS W H - (intOf i).toNat)
    case atStart => exact ⟨0, Nat.zero_le _, rfl, HG.out.congrV (fun i _ => by simp), hgu⟩
    case round =>
      clear c0 c1 c2 c3 c4 HG
      obtain ⟨k, hk, rfl, hgd, hgr⟩ := hrel
      obtain ⟨c0, c1, c2, c3, c4⟩ := hgd.cells
      by_cases hlt : k < cntS W H
      · have hkI : (k : Int) < (cntS W H : Int) := by omega
        have c5 := hgd.vers.cell hlt
        have f5 := hgd.vers.frozen k
        have hap := hgd.apart.2.1
        have HG := hide ((hgd.gr (Gr.refl wr).drew).setVer k (ep + 1))
        clear hgd
        go_wp2_with fail
        go_region_held3 (fun z => z.cell? ⟨p, 3, none⟩ = some (.int .i64 (ep + 1)) ∧ z.cell? ⟨p, 4, none⟩ = some (.slice (some ⟨v, 0, none⟩) (cntS W H) (cntS W H))) (first | exact ⟨c3, c4⟩ | exact cell2_far ⟨c3, c4⟩ hap) (fail)
        go_wp2_with fail
        go_roundw
        case rel =>
          refine ⟨k + 1, by omega, by go_num, HG.out.congrV (fun i hi => ?_), hgr.drew.set (p := ⟨v, k, none⟩) hv _⟩
          show (if i = k then ep + 1 else if i < k then ep + 1 else 0) = if i < k + 1 then ep + 1 else 0
          by_cases h1 : i = k
          · rw [if_pos h1, if_pos (by omega)]
          · rw [if_neg h1]
            by_cases h2 : i < k
            · rw [if_pos h2, if_pos (by omega)]
            · rw [if_neg h2, if_neg (by omega)]
        case measure => simp [intOf]; omega
      · have hkC : k = cntS W H := by omega
        have HG := hide (hgd.congrV (ver' := fun _ => ep + 1) (fun i hi => by rw [if_pos (by omega)]))
        clear hgd
        go_wp2_with fail
        go_ret
        exact ⟨⟨p, c, v, cc, rfl, HG.out, hp, hc, hv⟩, hgr⟩

end Go.Proofs.Ytmejpildmapfiaa
