/- What a grid's Edit does: the cost is laid, the epoch and the sector's version rise; or nothing turns, with its code. -/
import Derived.Test.YtmejpildmapfiaaGGet
namespace Go.Proofs.Ytmejpildmapfiaa
open Go.RowKit
set_option maxRecDepth 20000

/-- the blocks of a grid -/
def Of3 (p c v : Nat) (k : Nat) : Prop := k = p ∨ k = c ∨ k = v
/-- the code of an edit -/
def ecF (N : Nat) (x y : Int) : Int := if 0 ≤ x ∧ x < N then (if 1 ≤ y ∧ y ≤ 255 then 0 else 8) else 7

set_option maxHeartbeats 1000000 in
theorem gedit_no {w : World} {p c v : Nat} {W H : Int} {N cc : Nat} {f : Nat → Int} {ep : Int} {ver : Nat → Int} (h : Gd w p c v W H N cc f ep ver) (x y : Int) (hc : ecF N x y ≠ 0) :
    Calls Try.prog 14 #[.pointer (some ⟨p, 0, none⟩), .int .i64 x, .int .i64 y] w fun e w' => e = .returned (.int .i64 (ecF N x y)) ∧ Gr w w' := by
  have HG := hide h
  clear h
  by_cases h0 : 0 ≤ x ∧ x < N
  · have hd : decide (0 ≤ x ∧ x < N) = true := by simp; omega
    by_cases h1 : 1 ≤ y
    · have h2 : 255 < y := by
        apply Classical.byContradiction
        intro h2
        exact hc (by unfold ecF; rw [if_pos h0, if_pos (by omega)])
      have E : Hid (8 = ecF N x y) := hide (by unfold ecF; rw [if_pos h0, if_neg (by omega)])
      clear hc
      go_enter Try.func14, Try.ntmps14
      go_wp2_with (go_at_call 35; refine (gisCell_any HG.out _).mono ?_; rintro e w1 ⟨rfl, hg1⟩; rw [hd])
      go_ret
      exact ⟨ret_int E.out, (by repeat (first | exact Gr.refl _ | assumption | exact Dr.gr (by assumption) | refine Gr.alloc ?_ _ | refine Gr.drewN ?_ _ | refine Gr.drew ?_ | refine Gr.trans ?_ (by assumption) | refine Gr.trans ?_ (Dr.gr (by assumption))))⟩
    · have E : Hid (8 = ecF N x y) := hide (by unfold ecF; rw [if_pos h0, if_neg (by omega)])
      clear hc
      go_enter Try.func14, Try.ntmps14
      go_wp2_with (go_at_call 35; refine (gisCell_any HG.out _).mono ?_; rintro e w1 ⟨rfl, hg1⟩; rw [hd])
      go_ret
      exact ⟨ret_int E.out, (by repeat (first | exact Gr.refl _ | assumption | exact Dr.gr (by assumption) | refine Gr.alloc ?_ _ | refine Gr.drewN ?_ _ | refine Gr.drew ?_ | refine Gr.trans ?_ (by assumption) | refine Gr.trans ?_ (Dr.gr (by assumption))))⟩
  · have hd : decide (0 ≤ x ∧ x < N) = false := by simp; omega
    have E : Hid (7 = ecF N x y) := hide (by unfold ecF; rw [if_neg h0])
    clear hc h0
    go_enter Try.func14, Try.ntmps14
    go_wp2_with (go_at_call 35; refine (gisCell_any HG.out _).mono ?_; rintro e w1 ⟨rfl, hg1⟩; rw [hd])
    go_ret
    exact ⟨ret_int E.out, (by repeat (first | exact Gr.refl _ | assumption | exact Dr.gr (by assumption) | refine Gr.alloc ?_ _ | refine Gr.drewN ?_ _ | refine Gr.drew ?_ | refine Gr.trans ?_ (by assumption) | refine Gr.trans ?_ (Dr.gr (by assumption))))⟩

/-- what is laid at one place, all else as it was -/
def putF (f : Nat → Int) (k : Nat) (x : Int) : Nat → Int := fun j => if j = k then x else f j

theorem Gd.edit {w w2 : World} {p c v : Nat} {W H : Int} {N cc : Nat} {f : Nat → Int} {ep : Int} {ver : Nat → Int} (h : Gd w p c v W H N cc f ep ver) {k s : Nat} {y ep' : Int} (hy : 1 ≤ y ∧ y ≤ 255) (he : ep' = ep + 1)
    (hg : Gr ((w.setCell ⟨c, k, none⟩ (.int .u8 y)).setCell ⟨p, 3, none⟩ (.int .i64 ep')) w2) :
    Gd (w2.setCell ⟨v, s, none⟩ (.int .i64 ep')) p c v W H N cc (putF f k y) (ep + 1) (putF ver s (ep + 1)) ∧ Kp (Of3 p c v) w (w2.setCell ⟨v, s, none⟩ (.int .i64 ep')) := by
  subst he
  obtain ⟨a1, a2, a3⟩ := h.apart
  obtain ⟨hm, hn, hf⟩ := (mayM_iff _ _ _ _).1 h.may
  refine ⟨⟨?_, ?_, ?_, ?_, ?_, h.cap, h.apart⟩, ?_⟩
  · exact (row_gr (World.rowIs.congr ((h.box.setOther (a := ⟨c, k, none⟩) a1 _).set 3 _) (pen_set3 _ _ _ _ _ _)) hg).setOther (a := ⟨v, s, none⟩) a2 _
  · exact (((h.cost.set k y).setOther (a := ⟨p, 3, none⟩) (Ne.symm a1) _).gr hg).setOther (a := ⟨v, s, none⟩) a3 _
  · exact (((h.vers.setOther (a := ⟨c, k, none⟩) (Ne.symm a3) _).setOther (a := ⟨p, 3, none⟩) (Ne.symm a2) _).gr hg).set s (ep + 1)
  · intro i hi
    unfold putF
    split
    · omega
    · exact h.byte i hi
  · rw [mayM_iff]
    refine ⟨hm, hn, fun i hi => ?_⟩
    unfold putF
    split
    · omega
    · exact hf i hi
  · exact Kp.set (Kp.trans (Kp.set (Kp.set (Kp.refl _ w) (p := ⟨c, k, none⟩) (.inl (.inr (.inl rfl))) _) (p := ⟨p, 3, none⟩) (.inl (.inl rfl)) _) hg.kp) (p := ⟨v, s, none⟩) (.inl (.inr (.inr rfl))) _

theorem cell4_far {w : World} {p q s i0 i1 i2 i3 : Nat} {x0 x1 x2 x3 x : Value} (h : w.cell? ⟨p, i0, none⟩ = some x0 ∧ w.cell? ⟨p, i1, none⟩ = some x1 ∧ w.cell? ⟨p, i2, none⟩ = some x2 ∧ w.cell? ⟨p, i3, none⟩ = some x3) (hq : p ≠ q) :
    (w.setCell ⟨q, s, none⟩ x).cell? ⟨p, i0, none⟩ = some x0 ∧ (w.setCell ⟨q, s, none⟩ x).cell? ⟨p, i1, none⟩ = some x1 ∧ (w.setCell ⟨q, s, none⟩ x).cell? ⟨p, i2, none⟩ = some x2 ∧ (w.setCell ⟨q, s, none⟩ x).cell? ⟨p, i3, none⟩ = some x3 := by
  rw [World.cell?_setCell_far _ _ _ _ (by exact fun e => hq e.symm), World.cell?_setCell_far _ _ _ _ (by exact fun e => hq e.symm), World.cell?_setCell_far _ _ _ _ (by exact fun e => hq e.symm), World.cell?_setCell_far _ _ _ _ (by exact fun e => hq e.symm)]
  exact h

set_option maxHeartbeats 4000000 in
theorem gedit_yes {w : World} {p c v : Nat} {W H : Int} {N cc : Nat} {f : Nat → Int} {ep : Int} {ver : Nat → Int} (h : Gd w p c v W H N cc f ep ver) (k : Nat) (y : Int) (hk : k < N) (hy : 1 ≤ y ∧ y ≤ 255) (he : -4611686018427387904 ≤ ep ∧ ep ≤ 9223372036854775806) :
    Calls Try.prog 14 #[.pointer (some ⟨p, 0, none⟩), .int .i64 k, .int .i64 y] w fun e w' => e = .returned (.int .i64 0) ∧ Gd w' p c v W H N cc (putF f k y) (ep + 1) (putF ver (sectorF W k).toNat (ep + 1)) ∧ Kp (Of3 p c v) w w' := by
  obtain ⟨hm, hn, b1, b2, b3, b4, b5⟩ := h.bd
  obtain ⟨s, l, hs, hl, es, el, egc⟩ := cell_at hm hn hk
  have hcell : isCellB W H k = true := by rw [isCellB_iff]; exact ⟨hm, by omega, by omega⟩
  have hd : decide (0 ≤ (k : Int) ∧ (k : Int) < N) = true := by simp; omega
  obtain ⟨a1, a2, a3⟩ := h.apart
  have HG := hide h
  have hcap := h.cap
  have HS := hide (fun u => sector_yes W H k u hcell)
  rw [es] at HS ⊢
  have hsI : (s : Int) < (cntS W H : Int) := by omega
  clear h es el egc hcell hn b5
  go_enter Try.func14, Try.ntmps14
  go_wp2_with (go_at_call 35; refine (gisCell_any HG.out _).mono ?_; rintro e w1 ⟨rfl, hg1⟩; rw [hd]; have HG1 := hide (HG.out.gr hg1); obtain ⟨c0, c1, c2, c3, c4⟩ := HG1.out.cells; have c5 := HG1.out.cost.cell hk; have f5 := HG1.out.cost.frozen k; have f3 := HG1.out.box.frozen 3)
  have hbx := row_gr (World.rowIs.congr ((HG1.out.box.setOther (a := ⟨c, k, none⟩) a1 (.int .u8 y)).set 3 (.int .i64 (ep + 1))) (pen_set3 _ _ _ _ _ _)) (Gr.refl _)
  have hvr := (HG1.out.vers.setOther (a := ⟨c, k, none⟩) (Ne.symm a3) (.int .u8 y)).setOther (a := ⟨p, 3, none⟩) (Ne.symm a2) (.int .i64 (ep + 1))
  have HE := hide (fun w2 => HG1.out.edit (w2 := w2) (k := k) (s := s) hy rfl)
  clear c0 c1 c2 c3 c4 c5 f5 f3
  generalize ((w1.setCell ⟨c, k, none⟩ (.int .u8 y)).setCell ⟨p, 3, none⟩ (.int .i64 (ep + 1))) = u at *
  have d0 := hbx.cell (i := 0) (by omega)
  have d1 := hbx.cell (i := 1) (by omega)
  have d3 := hbx.cell (i := 3) (by omega)
  have d4 := hbx.cell (i := 4) (by omega)
  simp only [pen] at d0 d1 d3 d4
  have HV := hide hvr
  clear hbx hvr
  go_region_held3 (fun z => z.cell? ⟨p, 0, none⟩ = some (.int .i64 W) ∧ z.cell? ⟨p, 1, none⟩ = some (.int .i64 H) ∧ z.cell? ⟨p, 3, none⟩ = some (.int .i64 (ep + 1)) ∧ z.cell? ⟨p, 4, none⟩ = some (.slice (some ⟨v, 0, none⟩) (cntS W H) (cntS W H))) (first | exact ⟨d0, d1, d3, d4⟩ | exact ⟨e0, e1, e3, e4⟩ | exact cell4_far ⟨e0, e1, e3, e4⟩ a2) ((go_at_call 36; refine (HS.out _).mono ?_; rintro e w9 ⟨rfl, hd9⟩; have hg9 := (Gr.refl u).drew.trans (Dr.gr hd9); clear hd9; have e0 := cell_gr d0 hg9; have e1 := cell_gr d1 hg9; have e3 := cell_gr d3 hg9; have e4 := cell_gr d4 hg9; have e5 := (HV.out.gr hg9).cell hs; have f5 := (HV.out.gr hg9).frozen s))
  obtain ⟨q1, q2⟩ := HE.out _ hg9
  go_wp2
  go_ret
  exact ⟨rfl, q1, (hg1.kp).trans q2⟩

end Go.Proofs.Ytmejpildmapfiaa
