/- What pack.Get answers. -/
import Derived.Test.YtakmiafloolpmaaDoorDGet
namespace Go.Proofs.YtakmiafloolpmaaDoor
open Go.RowKit
set_option maxRecDepth 20000

set_option maxHeartbeats 400000 in
theorem pfits_any (x : Int) (w : World) :
    Calls Tryd.prog 72 #[.int .i64 x] w fun e w' => e = .returned (.bool (fitsB x)) ∧ w' = w := by
  by_cases h : 1 ≤ x
  · by_cases h2 : x ≤ 16
    · have E : Hid (fitsB x = true) := hide ((fitsB_iff x).2 ⟨h, h2⟩)
      go_enter Tryd.func72, Tryd.ntmps72
      go_wp2
      go_ret
      exact ⟨ret_bool (by rw [E.out]), rfl⟩
    · have E : Hid (fitsB x = false) := hide ((fitsB_false x).2 (by omega))
      go_enter Tryd.func72, Tryd.ntmps72
      go_wp2
      go_ret
      exact ⟨ret_bool (by rw [E.out]), rfl⟩
  · have E : Hid (fitsB x = false) := hide ((fitsB_false x).2 (by omega))
    go_enter Tryd.func72, Tryd.ntmps72
    go_wp2
    go_ret
    exact ⟨ret_bool (by rw [E.out]), rfl⟩

/-- what Get answers -/
def Gets (w : World) (W H : Int) (r : Int × List Int × Nat) (v : Value) : Prop :=
  (r.1 = 0 ∧ ∃ g c, v = .tuple #[.agg #[.int .i64 W, .int .i64 H, .slice (some ⟨g, 0, none⟩) r.2.1.length c], .int .i64 r.2.2, .int .i64 0] ∧ r.2.1.length ≤ c ∧ c ≤ maxLen ∧ Sl w (some ⟨g, 0, none⟩) r.2.1.length (at0 r.2.1)) ∨
  (r.1 ≠ 0 ∧ v = .tuple #[.agg #[.int .i64 0, .int .i64 0, .slice none 0 0], .int .i64 0, .int .i64 r.1])

set_option maxHeartbeats 1000000 in
theorem get_arg (a : Option Addr) (B cap : Nat) (W H : Int) (w : World) (h : fitsB W = false ∨ fitsB H = false) :
    Calls Tryd.prog 65 #[.slice a B cap, .int .i64 W, .int .i64 H] w fun e w' => e = .returned (.tuple #[.agg #[.int .i64 0, .int .i64 0, .slice none 0 0], .int .i64 0, .int .i64 1]) ∧ Gr w w' := by
  cases hW : fitsB W
  · go_enter Tryd.func65, Tryd.ntmps65
    go_wp2_with (go_at_call 72; refine (pfits_any _ _).mono ?_; rintro e w1 ⟨rfl, hw1⟩; subst hw1; rw [hW])
    exact bodyPost_ret (v := .tuple #[.agg #[.int .i64 0, .int .i64 0, .slice none 0 0], .int .i64 0, .int .i64 1]) (by simp [results, Tryd.results65, go_sem]) rfl ⟨rfl, (by repeat (first | exact Gr.refl _ | assumption | exact Dr.gr (by assumption) | refine Gr.alloc ?_ _ | refine Gr.drewN ?_ _ | refine Gr.drew ?_ | (refine Gr.set ?_ (by first | exact Nat.le_refl _ | exact Nat.le_succ _ | (show _ ≤ _; omega) | (simp only [World.size_alloc] at *; omega)) _) | refine Gr.trans ?_ (by assumption) | refine Gr.trans ?_ (Dr.gr (by assumption))))⟩
  · have hH : fitsB H = false := by
      rcases h with h | h
      · rw [h] at hW; cases hW
      · exact h
    go_enter Tryd.func65, Tryd.ntmps65
    go_wp2_with (go_at_call 72; refine (pfits_any _ _).mono ?_; rintro e w1 ⟨rfl, hw1⟩; subst hw1; first | rw [hW] | rw [hH])
    exact bodyPost_ret (v := .tuple #[.agg #[.int .i64 0, .int .i64 0, .slice none 0 0], .int .i64 0, .int .i64 1]) (by simp [results, Tryd.results65, go_sem]) rfl ⟨rfl, (by repeat (first | exact Gr.refl _ | assumption | exact Dr.gr (by assumption) | refine Gr.alloc ?_ _ | refine Gr.drewN ?_ _ | refine Gr.drew ?_ | (refine Gr.set ?_ (by first | exact Nat.le_refl _ | exact Nat.le_succ _ | (show _ ≤ _; omega) | (simp only [World.size_alloc] at *; omega)) _) | refine Gr.trans ?_ (by assumption) | refine Gr.trans ?_ (Dr.gr (by assumption))))⟩

theorem row_set3 {w : World} {b : Nat} {t : TypeId} {x y z u0 u1 u2 : Value} (h : w.rowIs b t 3 (tri x y z)) : (((w.setCell ⟨b, 0, none⟩ u0).setCell ⟨b, 1, none⟩ u1).setCell ⟨b, 2, none⟩ u2).rowIs b t 3 (tri u0 u1 u2) := by
  refine World.rowIs.congr (((h.set 0 u0).set 1 u1).set 2 u2) ?_
  intro i hi
  rcases (by omega : i = 0 ∨ i = 1 ∨ i = 2) with rfl | rfl | rfl <;> simp [tri]

set_option maxHeartbeats 4000000 in
theorem get_any (a : Option Addr) (B cap : Nat) (W H : Int) (n : Nat) (b : Nat → Int) (ga : Nat → Addr) (w : World) (h : Sl w a B b) (hw : Glob w ga) (hc : B ≤ cap) (hcm : cap ≤ maxLen) (hB7 : B ≤ 1000000) (hW : 1 ≤ W ∧ W ≤ 16) (hH : 1 ≤ H ∧ H ≤ 16) (hn : (n : Int) = W * H) :
    Calls Tryd.prog 65 #[.slice a B cap, .int .i64 W, .int .i64 H] w fun e w' => (∃ v, e = .returned v ∧ Gets w' W H (getL n B b) v) ∧ Gr w w' := by
  have q := readTile_any a B cap W H n b ga (w.alloc (.cells #[.int .i64 0, .int .i64 0, .slice none 0 0] 31)) (h.gr ((Gr.refl w).alloc _)) (hw.gr ((Gr.refl w).alloc _)) hc hcm hB7 hW hH hn
  have fW := (fitsB_iff W).2 hW
  have fH := (fitsB_iff H).2 hH
  have n1 : 1 ≤ n := by
    have mc := Int.mul_le_mul hW.1 hH.1 (by omega) (by omega : (0 : Int) ≤ W)
    omega
  have hlen : (getL n B b).1 = 0 → 1 ≤ (getL n B b).2.1.length := fun e => by
    have := getL_ok h.byte n1 (L := (getL n B b).2.1) (u := (getL n B b).2.2) (Prod.ext e rfl)
    rw [this.2.2.1]; exact n1
  generalize getL n B b = r at *
  obtain ⟨k, L, u⟩ := r
  have HQ := hide q
  have HT := hide (tri_alloc w (.int .i64 0) (.int .i64 0) (.slice none 0 0) 31)
  have HL := hide hlen
  have HW := hide hw
  clear q hn hlen hw
  go_enter Tryd.func65, Tryd.ntmps65
  go_wp2_with (first | (go_at_call_of 72 W; refine (pfits_any _ _).mono ?_; rintro e w1 ⟨rfl, hw1⟩; subst hw1; rw [fW]) | (go_at_call 72; refine (pfits_any _ _).mono ?_; rintro e w1 ⟨rfl, hw1⟩; subst hw1; rw [fH]))
  refine HQ.out.mono ?_
  rintro e w1 ⟨⟨v, rfl, hv⟩, hg⟩
  have t1 := row_gr HT.out hg
  have r0 := t1.cell (i := 0) (by omega)
  have r1 := t1.cell (i := 1) (by omega)
  have r2 := t1.cell (i := 2) (by omega)
  have j0 := t1.frozen 0
  have j1 := t1.frozen 1
  have j2 := t1.frozen 2
  rw [tri_0] at r0
  rw [tri_1] at r1
  rw [tri_2] at r2
  have hgw := ((Gr.refl w).alloc _).trans hg
  rcases hv with ⟨hk, g, c, rfl, v1, v2, v3⟩ | ⟨hk, j, rfl, hj⟩
  · have hk0 : k = 0 := hk
    subst hk0
    have hl := HL.out rfl
    have hap := sl_apart v3 hl r0
    have t2 := row_set3 (u0 := .int .i64 W) (u1 := .int .i64 H) (u2 := .slice (some ⟨g, 0, none⟩) L.length c) t1
    have s2 := ((v3.setF (p := ⟨w.heap.size, 0, none⟩) (v := .int .i64 W) hap).setF (p := ⟨w.heap.size, 1, none⟩) (v := .int .i64 H) hap).setF (p := ⟨w.heap.size, 2, none⟩) (v := .slice (some ⟨g, 0, none⟩) L.length c) hap
    have hg2 := gr_set3 (x := .int .i64 W) (y := .int .i64 H) (z := .slice (some ⟨g, 0, none⟩) L.length c) hgw (Nat.le_refl _)
    clear t1 hg hgw v3 HL hl
    go_wp2_with fail
    clear r0 r1 r2 j0 j1 j2
    generalize (((w1.setCell ⟨w.heap.size, 0, none⟩ (.int .i64 W)).setCell ⟨w.heap.size, 1, none⟩ (.int .i64 H)).setCell ⟨w.heap.size, 2, none⟩ (.slice (some ⟨g, 0, none⟩) L.length c)) = u2 at *
    have m0 := t2.cell (i := 0) (by omega)
    have m1 := t2.cell (i := 1) (by omega)
    have m2 := t2.cell (i := 2) (by omega)
    rw [tri_0] at m0
    rw [tri_1] at m1
    rw [tri_2] at m2
    have HT2 := hide t2
    have HS2 := hide s2
    clear t2 s2
    go_region_with (go_at_call 74; refine (codeOf_nil _).mono ?_; rintro e w3 ⟨rfl, hg3⟩; have t3 := row_gr HT2.out ((Gr.refl _).drew.trans hg3); have m0 := t3.cell (i := 0) (by omega); have m1 := t3.cell (i := 1) (by omega); have m2 := t3.cell (i := 2) (by omega); have j0 := t3.frozen 0; have j1 := t3.frozen 1; have j2 := t3.frozen 2; rw [tri_0] at m0; rw [tri_1] at m1; rw [tri_2] at m2; have HT3 := hide t3; clear t3)
    all_goals
      go_wp2
      exact bodyPost_ret (v := .tuple #[.agg #[.int .i64 W, .int .i64 H, .slice (some ⟨g, 0, none⟩) L.length c], .int .i64 u, .int .i64 0]) (by simp [results, Tryd.results65, go_sem, m0, m1, m2]) rfl ⟨⟨_, rfl, .inl ⟨rfl, g, c, rfl, v1, v2, (((HS2.out.gr ((Gr.refl _).drew.trans hg3)).setF (p := ⟨w.heap.size, 0, none⟩) hap).setF (p := ⟨w.heap.size, 1, none⟩) hap).setF (p := ⟨w.heap.size, 2, none⟩) hap⟩⟩, gr_set3 (hg2.drew.trans hg3) (Nat.le_refl _)⟩
  · have hk0 : k ≠ 0 := hk
    have hka := code_apart hj hk0 r1
    have t2 := row_set3 (u0 := .int .i64 0) (u1 := .int .i64 0) (u2 := .slice none 0 0) t1
    have s2 := cell_far3 (x := .int .i64 0) (y := .int .i64 0) (z := .slice none 0 0) hj hka
    have hg2 := gr_set3 (x := .int .i64 0) (y := .int .i64 0) (z := .slice none 0 0) hgw (Nat.le_refl _)
    clear t1 hg hgw HL
    have HK0 := hide hk0
    clear hk hk0
    go_wp2_with fail
    clear r0 r1 r2 j0 j1 j2
    generalize (((w1.setCell ⟨w.heap.size, 0, none⟩ (.int .i64 0)).setCell ⟨w.heap.size, 1, none⟩ (.int .i64 0)).setCell ⟨w.heap.size, 2, none⟩ (.slice none 0 0)) = u2 at *
    have m0 := t2.cell (i := 0) (by omega)
    have m1 := t2.cell (i := 1) (by omega)
    have m2 := t2.cell (i := 2) (by omega)
    rw [tri_0] at m0
    rw [tri_1] at m1
    rw [tri_2] at m2
    have HT2 := hide t2
    have HS2 := hide s2
    clear t2 s2
    go_region_with (go_at_call 74; refine (codeOf_hit j k ga _ (HW.out.gr hg2.drew) (cell_gr HS2.out (Gr.refl _).drew)).mono ?_; rintro e w3 ⟨rfl, hg3⟩; have t3 := row_gr HT2.out ((Gr.refl _).drew.trans hg3); have m0 := t3.cell (i := 0) (by omega); have m1 := t3.cell (i := 1) (by omega); have m2 := t3.cell (i := 2) (by omega); have j0 := t3.frozen 0; have j1 := t3.frozen 1; have j2 := t3.frozen 2; rw [tri_0] at m0; rw [tri_1] at m1; rw [tri_2] at m2; have HT3 := hide t3; clear t3)
    all_goals
      go_wp2
      exact bodyPost_ret (v := .tuple #[.agg #[.int .i64 0, .int .i64 0, .slice none 0 0], .int .i64 0, .int .i64 k]) (by simp [results, Tryd.results65, go_sem, m0, m1, m2]) rfl ⟨⟨_, rfl, .inr ⟨HK0.out, rfl⟩⟩, gr_set3 (hg2.drew.trans hg3) (Nat.le_refl _)⟩

end Go.Proofs.YtakmiafloolpmaaDoor
