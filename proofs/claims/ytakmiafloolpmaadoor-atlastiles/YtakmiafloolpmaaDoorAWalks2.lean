/- What atlas.cut, Put, Tile and the document's TileOf, PutMap answer, of maps in memory. -/
import Derived.Test.YtakmiafloolpmaaDoorAWalks1
namespace Go.Proofs.YtakmiafloolpmaaDoor
open Go.RowKit
set_option maxRecDepth 20000

theorem froz_gr {u u' : World} {b o : Nat} {v : Value} (hc : u.cell? ⟨b, o, none⟩ = some v) (h : u.frozen? ⟨b, o, none⟩ = false) (g : Gr u u') : u'.frozen? ⟨b, o, none⟩ = false := by
  rw [g.frozen b o (World.block_lt_of_cell? u ⟨b, o, none⟩ hc)]
  exact h
theorem cel_plus {k : IntKind} {n m : Nat} {f g : Nat → Int} (h : ∀ j, j < m → g j = f (n + j)) : cel k n f ++ cel k m g = cel k (n + m) f := by
  unfold cel
  rw [List.range_add, List.map_append, List.map_map]
  congr 1
  exact List.map_congr_left fun j hj => by rw [h j (List.mem_range.1 hj)]; rfl
/-- a make of nothing, with room -/
theorem make_room (c : Nat) (hc : c ≤ 2000000) (w : World) : (Instr.makeSlice 22 (.int .i64 0) (.int .i64 (c : Int))).run Tryd.prog w = .ok (.slice (some ⟨w.heap.size, 0, none⟩) 0 c) (w.alloc (.cells (madeCells #[.int .u8 0] c) 5)) := by
  obtain ⟨i0, hi, hz0, hz1, hz2⟩ := info_parts info_u8
  have hr := run_make (P := Tryd.prog) w 22 5 i0 (.int .u8 0) Tryd.underlying22 hi hz0 .i64 .i64 0 c (by omega) (by omega) (by rw [hz2]; omega) (by omega)
  simp only [Int.toNat_natCast, hz1, Nat.mul_one] at hr
  exact hr
theorem own_set3 {w : World} {base g n c B : Nat} {xs : List Value} {x y z : Value} {e : TypeId} (h : w.ownsRow base e 1 (.slice (some ⟨g, 0, none⟩) n c) n xs) (hB : B < base) : (((w.setCell ⟨B, 0, none⟩ x).setCell ⟨B, 1, none⟩ y).setCell ⟨B, 2, none⟩ z).ownsRow base e 1 (.slice (some ⟨g, 0, none⟩) n c) n xs :=
  ownsRow_setCell_below (ownsRow_setCell_below (ownsRow_setCell_below h (a := ⟨B, 0, none⟩) hB x) (a := ⟨B, 1, none⟩) hB y) (a := ⟨B, 2, none⟩) hB z
/-- the cells of a row of a sector lie one behind the other -/
theorem gc_row {W H : Int} {s r j TW TH : Nat} (hs : isSectorB W H s = true) (h1 : twF W s = TW) (h2 : thF W H s = TH) (hr : r < TH) (hj : j < TW) : gcF W s (r * TW + j) = gcF W s (r * TW) + j ∧ r * TW + j < tnF W H s := by
  have ht := tnF_eq hs
  have hlt : r * TW + j < TW * TH := by
    have : (r + 1) * TW ≤ TH * TW := Nat.mul_le_mul_right _ hr
    rw [Nat.mul_comm TW TH]
    rw [Nat.add_mul] at this
    omega
  have htn : tnF W H s = TW * TH := by
    have := ht.1
    rw [h1, h2, ← Int.natCast_mul] at this
    omega
  refine ⟨?_, by omega⟩
  have e1 := (gcF_eq hs (l := r * TW + j) (by omega)).1
  have e0 := (gcF_eq hs (l := r * TW) (by omega)).1
  unfold globalF at e0 e1
  rw [h1] at e0 e1
  have d1 : ((r * TW + j : Nat) : Int) / (TW : Int) = r := by
    rw [← Int.natCast_ediv, Nat.mul_comm, Nat.mul_add_div (by omega), Nat.div_eq_of_lt hj, Nat.add_zero]
  have m1 : ((r * TW + j : Nat) : Int) % (TW : Int) = j := by
    rw [← Int.natCast_emod, Nat.mul_comm, Nat.mul_add_mod, Nat.mod_eq_of_lt hj]
  have d0 : ((r * TW : Nat) : Int) / (TW : Int) = r := by
    rw [← Int.natCast_ediv, Nat.mul_div_cancel _ (by omega)]
  have m0 : ((r * TW : Nat) : Int) % (TW : Int) = 0 := by
    rw [← Int.natCast_emod, Nat.mul_mod_left]; rfl
  rw [d1, m1] at e1
  rw [d0, m0] at e0
  omega

/-- a struct's box, and behind it one that is empty yet -/
theorem two_boxes (w : World) (W H : Int) (v : Value) (t t' : TypeId) : ((w.alloc (.cells #[.int .i64 W, .int .i64 H, v] t)).alloc (.cells #[.int .i64 0, .int .i64 0, .slice none 0 0] t')).rowIs w.heap.size t 3 (tri (.int .i64 W) (.int .i64 H) v) ∧
    ((w.alloc (.cells #[.int .i64 W, .int .i64 H, v] t)).alloc (.cells #[.int .i64 0, .int .i64 0, .slice none 0 0] t')).rowIs (w.heap.size + 1) t' 3 (tri (.int .i64 0) (.int .i64 0) (.slice none 0 0)) ∧ ((w.alloc (.cells #[.int .i64 W, .int .i64 H, v] t)).alloc (.cells #[.int .i64 0, .int .i64 0, .slice none 0 0] t')).heap.size = w.heap.size + 2 ∧
    Gr w ((w.alloc (.cells #[.int .i64 W, .int .i64 H, v] t)).alloc (.cells #[.int .i64 0, .int .i64 0, .slice none 0 0] t')) := by
  refine ⟨(tri_alloc w _ _ _ t).alloc _, ?_, by simp only [World.size_alloc], ((Gr.refl w).alloc _).alloc _⟩
  have := tri_alloc (w.alloc (.cells #[.int .i64 W, .int .i64 H, v] t)) (.int .i64 0) (.int .i64 0) (.slice none 0 0) t'
  rwa [World.size_alloc] at this
/-- the three cells of a box, and that none is frozen -/
theorem row_cells {w : World} {b : Nat} {t : TypeId} {x y z : Value} (h : w.rowIs b t 3 (tri x y z)) : w.cell? ⟨b, 0, none⟩ = some x ∧ w.cell? ⟨b, 1, none⟩ = some y ∧ w.cell? ⟨b, 2, none⟩ = some z ∧ w.frozen? ⟨b, 0, none⟩ = false ∧ w.frozen? ⟨b, 1, none⟩ = false ∧ w.frozen? ⟨b, 2, none⟩ = false :=
  ⟨h.cell (i := 0) (by omega), h.cell (i := 1) (by omega), h.cell (i := 2) (by omega), h.frozen 0, h.frozen 1, h.frozen 2⟩
theorem cut_next {w1 u U : World} {base k m g c : Nat} {v' : Value} {f t : Nat → Int} (h : w1.ownsRow base 5 1 v' (k + m) (cel .u8 k f ++ cel .u8 m t)) (hm : 0 < m) (ht : ∀ j, j < m → t j = f (k + j)) (hg : u.grownBy w1 (Value.slice (some ⟨g, 0, none⟩) k c).ownBlock) (h0 : Gr U u) (hgb : U.heap.size ≤ g) :
    ∃ g' c', v' = .slice (some ⟨g', 0, none⟩) (k + m) c' ∧ w1.ownsRow base 5 1 (.slice (some ⟨g', 0, none⟩) (k + m) c') (k + m) (cel .u8 (k + m) f) ∧ base ≤ g' ∧ Gr U w1 := by
  rw [cel_plus ht] at h
  rcases h.2 with ⟨_, h0'⟩ | ⟨g', cap, cur, rfl, hb', r⟩
  · omega
  · refine ⟨g', cap, rfl, h, hb', Gr.grown h0 hg ?_⟩
    intro j hj
    simp [Value.ownBlock] at hj
    omega
theorem cel_from {w u : World} {b o n q m : Nat} {f : Nat → Int} (h : Sl w (some ⟨b, o, none⟩) n f) (hq : q + m ≤ n) (g : Gr w u) : ∀ j v, (cel .u8 m (fun i => f (q + i)))[j]? = some v → u.cell? ((⟨b, o + q, none⟩ : Addr).add j) = some v := by
  by_cases hn : n = 0
  · intro j v hj
    have := (List.getElem?_eq_some_iff.1 hj).1
    rw [cel_len] at this
    omega
  obtain ⟨b', o', e, hB, hc⟩ := h.at (by omega)
  cases e
  refine cel_at (fun i hi => ?_) hB g
  rw [Nat.add_assoc]
  exact hc (q + i) (by omega)

set_option maxHeartbeats 4000000 in
theorem acut_any (W H : Int) (a : Option Addr) (n cap : Nat) (f : Nat → Int) (s : Nat) (w : World) (h : Sl w a n f) (hc : n ≤ cap) (hm : mayM W H n f = true) (hs : s < cntS W H) :
    Calls Tryd.prog 33 #[.agg #[.int .i64 W, .int .i64 H, .slice a n cap], .int .i64 s] w fun e w' => (∃ g c', e = .returned (.agg #[.int .i64 (twF W s), .int .i64 (thF W H s), .slice (some ⟨g, 0, none⟩) (tnF W H s) c']) ∧ OwnB w' w.heap.size g (tnF W H s) c' (tileF W s f)) ∧ Gr w w' := by
  obtain ⟨i0, hi, hz0, hz1, hz2⟩ := info_parts info_u8
  obtain ⟨hmb, hN, hf0⟩ := (mayM_iff _ _ _ _).1 hm
  have mm := may_mul hmb
  have hn6 : n ≤ 1048576 := by omega
  have hs1 := sec_of hs
  have sb := size_bd hs1
  have ht := tnF_eq hs1
  obtain ⟨b, o, rfl, hB, hcell⟩ := h.at (by omega)
  obtain ⟨TW, hTW⟩ : ∃ TW : Nat, twF W s = TW := ⟨(twF W s).toNat, by omega⟩
  obtain ⟨TH, hTH⟩ : ∃ TH : Nat, thF W H s = TH := ⟨(thF W H s).toNat, by omega⟩
  have hgy := fun (l : Int) (u : World) (h0 : 0 ≤ l) (h1 : l < twF W s * thF W H s) => global_yes W H s l u hs1 h0 h1
  have hsz := fun (u : World) => size_yes W H s u hs1
  rw [hTW, hTH] at sb ht
  simp only [hTW, hTH] at hgy hsz ⊢
  obtain ⟨TN, hTN⟩ : ∃ TN : Nat, tnF W H s = TN := ⟨_, rfl⟩
  have hbT : Hid (∀ i, i < TN → 0 ≤ tileF W s f i ∧ tileF W s f i ≤ 255) := hide (fun i hi => h.byte _ (gcF_lt hs1 (by omega) hN))
  rw [hTN] at ht ⊢
  have hmul : (TW : Int) * (TH : Int) = (TN : Int) := ht.1.symm
  have hmk := make_room TN (by omega)
  have HM := hide (fun r hr j hj => gc_row (W := W) (H := H) (s := s) (r := r) (j := j) hs1 hTW hTH hr hj)
  have HG := hide hgy
  have HS := hide hsz
  have HC := hide (fun r hr => (gcF_eq hs1 (l := r) hr).1)
  have HL := hide (fun r hr => gcF_lt hs1 (l := r) hr hN)
  have HE := hide hcell
  rw [hTN] at HM HC HL
  clear hgy hsz hcell hm hmb hN hf0 hs1 hTW hTH
  obtain ⟨ht0, ht1, ht2⟩ := ht
  clear ht0
  go_enter Tryd.func33, Tryd.ntmps33
  go_wp2_with (go_at_call 52; refine (HS.out _).mono ?_; rintro e w1 ⟨rfl, hd⟩; have hg1 := Dr.gr hd; clear hd)
  obtain ⟨R1, R2, hU, hUw⟩ := two_boxes w W H (.slice (some ⟨b, o, none⟩) n cap) 24 31
  generalize ((w.alloc (.cells #[.int .i64 W, .int .i64 H, .slice (some ⟨b, o, none⟩) n cap] 24)).alloc (.cells #[.int .i64 0, .int .i64 0, .slice none 0 0] 31)) = U at *
  have hUw1 := hg1.size
  go_loopw [7, 24] (fun v i u => ∃ (r g c : Nat), r ≤ TH ∧ i = .int .i64 r ∧ v = .slice (some ⟨g, 0, none⟩) (r * TW) c ∧ u.ownsRow (w.heap.size + 2) 5 1 (.slice (some ⟨g, 0, none⟩) (r * TW) c) (r * TW) (cel .u8 (r * TW) (tileF W s f)) ∧ w.heap.size + 2 ≤ g ∧ Gr U u) (fun _ i _ => TH - (intOf i).toNat)
  case atStart =>
    refine ⟨0, w1.heap.size, TN, Nat.zero_le _, rfl, by rw [Nat.zero_mul], ?_, by omega, hg1.alloc _⟩
    rw [Nat.zero_mul]
    exact World.ownsRow_made w1 _ TN (by omega) (by unfold maxLen; omega) (by rw [size_madeCells, Nat.mul_one])
  case round =>
    obtain ⟨r, g, c, hr, rfl, rfl, hown, hgb, hgr⟩ := hrel
    obtain ⟨d1, d2, d3, -, -, -⟩ := row_cells (row_gr R1 hgr)
    obtain ⟨e1, e2, e3, j1, j2, j3⟩ := row_cells (row_gr R2 hgr)
    obtain ⟨k, hk⟩ : ∃ k, r * TW = k := ⟨_, rfl⟩
    have hkI : (r : Int) * (TW : Int) = (k : Int) := by rw [← Int.natCast_mul, hk]
    by_cases hlt : r < TH
    · have q1 := HM.out r hlt (TW - 1) (by omega)
      have q2 := HM.out r hlt 0 (by omega)
      have hrow := fun j hj => (HM.out r hlt j hj).1
      rw [hk] at q1 q2 hrow hown
      obtain ⟨q, hq⟩ : ∃ q, gcF W s k = q := ⟨_, rfl⟩
      have hgq := HC.out k (by omega)
      have hqn := HL.out (k + (TW - 1)) (by omega)
      rw [q1.1] at hqn
      rw [hq] at hgq hqn hrow
      have hk1 : Hid ((r + 1) * TW = k + TW) := hide (by rw [Nat.add_mul, hk, Nat.one_mul])
      have HR := hide hrow
      have HO := hide hown
      have hkl : (k : Int) < TW * TH := by rw [hmul]; omega
      have hqc : q < cap := by omega
      have hk2 : k + TW ≤ TN := by omega
      have HGQ := hide hgq.symm
      clear q1 q2 hrow hown hgq
      rw [hk]
      go_wp2_with (first | (go_at_call 53; refine (HG.out _ _ (by omega) (by omega)).mono ?_; rintro e w2 ⟨rfl, hd⟩; have hg2 := Dr.gr hd; clear hd; rw [HGQ.out]; replace d3 := cell_gr d3 hg2) | (at_builtin; go_loud (refine wpList_append_own _ rfl _ _ 22 rfl (w.heap.size + 2) 5 i0 (.int .u8 0) 1 1 Tryd.underlying22 hi hz0 hz1 hz2 rfl (by decide) (.slice (some ⟨g, 0, none⟩) k c) k (cel .u8 k (tileF W s f)) rfl (own_gr HO.out hg2) ⟨b, o + q, none⟩ TW _ (cel .u8 TW (fun i => f (q + i))) (congrArg (fun m => Value.slice (some ⟨b, o + q, none⟩) m (cap - q)) (Nat.add_sub_cancel_left q TW)) (by simp [cel_len]) (cel_from h (by omega) (hUw.trans (hgr.trans hg2))) (cel_one _ _ _) (by unfold maxLen; omega) (by omega) (by have := hgr.size; have := hg2.size; omega) ?_; intro v' w3 hown3 hgrow3 hnil3); obtain ⟨g3, c3, rfl, ho3, hgb3, hgr3⟩ := cut_next hown3 (by omega) (fun j hj => (by unfold tileF; rw [HR.out j hj])) hgrow3 (hgr.trans hg2) (by omega); clear hown3 hgrow3 hnil3))
      go_roundw
      case rel => exact ⟨r + 1, g3, c3, by omega, by go_num, by rw [hk1.out], by rw [hk1.out]; exact ho3, hgb3, hgr3⟩
      case measure => simp [intOf]; omega
    · have hrT : r = TH := by omega
      subst hrT
      have hkT : k = TN := by
        have : ((r * TW : Nat) : Int) = (TN : Int) := by rw [← hmul]; push_cast; exact Int.mul_comm _ _
        omega
      rw [hk, hkT] at hown ⊢
      have HO := hide hown
      clear hown d1 d2 d3
      go_wp2
      exact bodyPost_ret (v := .agg #[.int .i64 TW, .int .i64 r, .slice (some ⟨g, 0, none⟩) TN c]) (by simp [results, Tryd.results33, go_sem, e1, e2, e3]) rfl ⟨⟨g, c, rfl, own_mono (own_set3 HO.out (by omega)) (by omega), hbT.out⟩, gr_set3 (hUw.trans hgr) (by omega)⟩

end Go.Proofs.YtakmiafloolpmaaDoor
