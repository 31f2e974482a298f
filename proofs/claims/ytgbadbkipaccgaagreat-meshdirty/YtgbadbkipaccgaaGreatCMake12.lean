/- table.Make: how far open locals are from each other. No condition. -/
import Derived.Test.YtgbadbkipaccgaaGreatCTo12
import Derived.Test.YtgbadbkipaccgaaGreatCRises12
namespace Go.Proofs.YtgbadbkipaccgaaGreat
open Go.RowKit
set_option maxRecDepth 20000

theorem make_rows (C : Nat) (hc : C ≤ 1000000) (w : World) : (Instr.makeSlice 31 (.int .i64 (C : Int)) (.int .i64 (C : Int))).run Tryz.prog w = .ok (.slice (some ⟨w.heap.size, 0, none⟩) C C) (w.alloc (.cells (madeCells #[.int .i64 0] C) 3)) := by
  obtain ⟨i0, hi, hz0, hz1, hz2⟩ := info_parts info_int
  have hr := run_make (P := Tryz.prog) w 31 3 i0 (.int .i64 0) Tryz.underlying31 hi hz0 .i64 .i64 C C (by omega) (by omega) (by rw [hz2]; omega) (by omega)
  simp only [Int.toNat_natCast, hz1, Nat.mul_one] at hr
  exact hr
theorem rows_made (w : World) (n : Nat) (hn : n ≤ 1000000) : FarS (w.alloc (.cells (madeCells #[.int .i64 0] n) 3)) w.heap.size n n (fun _ => 0) :=
  ⟨Nat.le_refl _, by unfold maxLen; omega, _, World.rowIs_made _ _ _ _, fun _ _ => rfl⟩
theorem opn_of {f : Nat → Int} {n : Nat} {z : Nat → Int} {m : Nat} (hr : riseB z m = true) (hl : ∀ i, i < m → 0 ≤ z i ∧ z i < (n : Int) ∧ f (z i).toNat ≠ 255) : Opn f n z m :=
  ⟨hl, fun i hi => by
    rcases riseB_iff.1 hr (i + 1) hi with k | k
    · omega
    · simpa using k⟩
theorem rise_of {f : Nat → Int} {n : Nat} {z : Nat → Int} {m : Nat} (h : Opn f n z m) : riseB z m = true :=
  riseB_iff.2 fun i hi => by
    by_cases e : i = 0
    · exact .inl e
    · have := h.rise (i - 1) (by omega)
      rw [show i - 1 + 1 = i by omega] at this
      exact .inr this
/-- the place of row r, column j, as it is reckoned -/
theorem place_go {m M r j : Nat} (hM : M = m * m) (hm : m ≤ 256) (hr : r < m) (hj : j < m) : ∃ R P : Nat, IntKind.i64.wrap ((r : Int) * (m : Int)) = (R : Int) ∧ IntKind.i64.wrap ((R : Int) + (j : Int)) = (P : Int) ∧ (0 : Int) ≤ (P : Int) ∧ (P : Int) < (M : Int) ∧ Hid (P = r * m + j) ∧ P < M := by
  have hlt := place_lt hr hj
  have hMM : m * m ≤ 256 * 256 := Nat.mul_le_mul hm hm
  refine ⟨r * m, r * m + j, ?_, ?_, by omega, by omega, hide rfl, by omega⟩
  · rw [← Int.natCast_mul, wrapI (by omega)]
  · rw [wrapI (by omega)]; omega

set_option maxHeartbeats 1000000 in
theorem make_no {W H : Int} {al : Option Addr} {n cap : Nat} {f : Nat → Int} {bl : Option Addr} {m c : Nat} {z : Nat → Int} {w : World}
    (h : Sl w al n f) (g : SlI w bl m z) (hm : m ≤ 100000) (hno : ¬ (riseB z m = true ∧ mayS W H n f (goalsL z m) = true)) :
    Calls Tryz.prog 66 #[.agg #[.int .i64 W, .int .i64 H, .slice al n cap], .slice bl m c] w fun e w' => e = .returned (.tuple #[.slice none 0 0, .int .i64 1]) ∧ Gr w w' := by
  obtain ⟨c1, c2, c3⟩ := tri_at w W H (.slice al n cap)
  have hg1 : Gr w (w.alloc (.cells #[.int .i64 W, .int .i64 H, .slice al n cap] 83)) := (Gr.refl w).alloc _
  go_enter Tryz.func66, Tryz.ntmps66
  go_wp2_with fail
  generalize (w.alloc (.cells #[.int .i64 W, .int .i64 H, .slice al n cap] 83)) = w1 at *
  generalize hB0 : w.heap.size = B0 at *
  clear hB0
  have HRS := hide (fun u (k : SlI u bl m z) => rises_any bl m c z u k (by omega))
  replace h := h.gr hg1
  replace g := g.gr hg1
  cases hr : riseB z m
  · rw [hr] at HRS
    have H2 : Hid (∀ u, Dr w1 u → Calls Tryz.prog 83 #[.slice bl m c] u fun e w' => e = .returned (.bool false) ∧ Dr u w') := hide fun u hu => HRS.out u (g.gr hu.gr)
    clear hr HRS
    go_quiet ((go_at_call 83; refine Dr.quiet (H2.out _ ⟨_, rfl⟩)))
    go_wp2_with fail
    go_ret2
    exact ⟨rfl, hg1.drewN _⟩
  · have hmay : mayS W H n f (goalsL z m) = false := by
      cases k : mayS W H n f (goalsL z m)
      · rfl
      · exact absurd ⟨hr, k⟩ hno
    rw [hr] at HRS
    clear hr hno
    go_region_held3 (fun u => u.cell? ⟨B0, 0, none⟩ = some (.int .i64 W) ∧ u.cell? ⟨B0, 1, none⟩ = some (.int .i64 H) ∧ u.cell? ⟨B0, 2, none⟩ = some (.slice al n cap)) (first | exact ⟨c1, c2, c3⟩ | exact ⟨cell_gr c1 hg9, cell_gr c2 hg9, cell_gr c3 hg9⟩) (first
      | (go_at_call 83; refine (HRS.out _ (g.gr ((Gr.refl w1).drew))).mono ?_; rintro e w2 ⟨rfl, hd2⟩; have hg9 : Gr w1 w2 := ((Gr.refl w1).drew).trans hd2.gr)
      | (go_at_call 85; refine (goals_any bl m c z _ (g.gr hg9) hm).mono ?_; rintro e w3 ⟨⟨rfl, hs3⟩, hg3⟩; have hg9 : Gr w1 w3 := (((Gr.refl w1).drew).trans hd2.gr).trans hg3)
      | (go_at_call 84; refine (smay_any W H al n cap f _ m m _ _ (h.gr hg9) hs3).mono ?_; rintro e w4 ⟨rfl, hg4⟩; rw [hmay]; have hg9 : Gr w1 w4 := ((((Gr.refl w1).drew).trans hd2.gr).trans hg3).trans hg4))
    go_wp2_with fail
    go_ret2
    exact ⟨rfl, hg1.trans hg9⟩

set_option maxHeartbeats 4000000 in
theorem make_yes {W H : Int} {al : Option Addr} {n cap : Nat} {f : Nat → Int} {bl : Option Addr} {m c : Nat} {z : Nat → Int} {w : World}
    (h : Sl w al n f) (g : SlI w bl m z) (htb : mayTB W H n f = true) (ho : Opn f n z m) :
    Calls Tryz.prog 66 #[.agg #[.int .i64 W, .int .i64 H, .slice al n cap], .slice bl m c] w fun e w' => (∃ g cf G, e = .returned (.tuple #[.slice (some ⟨g, 0, none⟩) (m * m) cf, .int .i64 0]) ∧ w.heap.size ≤ g ∧ FarS w' g cf (m * m) G ∧ TabP (Col (nearF W H n f) f n) z m G m) ∧ Gr w w' := by
  have h0 := h
  have g0 := g
  have hmay : mayS W H n f (goalsL z m) = true := (may_goals h.byte).2 ⟨htb, ho.loc⟩
  have hr : riseB z m = true := rise_of ho
  have hn2 := (mayTB_n htb).2.1
  have hmn := ho.size
  obtain ⟨M, hM⟩ : ∃ M, M = m * m := ⟨_, rfl⟩
  have hMM : M ≤ 65536 := by rw [hM]; exact Nat.mul_le_mul (show m ≤ 256 by omega) (show m ≤ 256 by omega)
  have hMw : IntKind.i64.wrap ((m : Int) * (m : Int)) = (M : Int) := by rw [hM, Int.natCast_mul, wrapI (by rw [← Int.natCast_mul, ← hM]; omega)]
  rw [← hM]
  have HM := hide hM
  clear hM
  obtain ⟨c1, c2, c3⟩ := tri_at w W H (.slice al n cap)
  have hg1 : Gr w (w.alloc (.cells #[.int .i64 W, .int .i64 H, .slice al n cap] 83)) := (Gr.refl w).alloc _
  have HO := hide ho
  clear ho
  go_enter Tryz.func66, Tryz.ntmps66
  go_wp2_with fail
  generalize (w.alloc (.cells #[.int .i64 W, .int .i64 H, .slice al n cap] 83)) = w1 at *
  generalize hB0 : w.heap.size = B0 at *
  replace h := h.gr hg1
  replace g := g.gr hg1
  go_region_held3 (fun u => u.cell? ⟨B0, 0, none⟩ = some (.int .i64 W) ∧ u.cell? ⟨B0, 1, none⟩ = some (.int .i64 H) ∧ u.cell? ⟨B0, 2, none⟩ = some (.slice al n cap)) (first | exact ⟨c1, c2, c3⟩ | exact ⟨cell_gr c1 hg9, cell_gr c2 hg9, cell_gr c3 hg9⟩) (first
    | (go_at_call 83; refine (rises_any bl m c z _ (g.gr ((Gr.refl w1).drew)) (by omega)).mono ?_; rintro e w2 ⟨rfl, hd2⟩; rw [hr]; have hg9 : Gr w1 w2 := ((Gr.refl w1).drew).trans hd2.gr)
    | (go_at_call 85; refine (goals_any bl m c z _ (g.gr hg9) (by omega)).mono ?_; rintro e w3 ⟨⟨rfl, hs3⟩, hg3⟩; have hg9 : Gr w1 w3 := (((Gr.refl w1).drew).trans hd2.gr).trans hg3)
    | (go_at_call 84; refine (smay_any W H al n cap f _ m m _ _ (h.gr hg9) hs3).mono ?_; rintro e w4 ⟨rfl, hg4⟩; rw [hmay]; have hg9 : Gr w1 w4 := ((((Gr.refl w1).drew).trans hd2.gr).trans hg3).trans hg4))
  replace c1 := cell_gr c1 hg9
  replace c2 := cell_gr c2 hg9
  replace c3 := cell_gr c3 hg9
  replace h := h.gr hg9
  replace g := g.gr hg9
  have hgr := hg1.trans hg9
  have hws := hgr.size
  clear hs3 hd2 hg3 hg4 hg9 hg1 hmay hr
  have hmk := make_rows M (by omega) w4
  have hfd := rows_made w4 M (by omega)
  have hgm : Gr w4 (w4.alloc (.cells (madeCells #[.int .i64 0] M) 3)) := (Gr.refl w4).alloc _
  have hB4 := World.block_lt_of_cell? _ _ c1
  go_upto_region 4 with fail
  generalize (w4.alloc (.cells (madeCells #[.int .i64 0] M) 3)) = w5 at *
  generalize hg2e : w4.heap.size = gm at *
  clear hmk hMw
  replace c1 := cell_gr c1 hgm
  replace c2 := cell_gr c2 hgm
  replace c3 := cell_gr c3 hgm
  replace hgr := hgr.trans hgm
  have hbB : B0 ≠ gm := by simp only at hB4; omega
  have hgw : w.heap.size ≤ gm := by omega
  clear hgm hg2e h g
  go_wp2_with fail
  go_loopw [31] (fun iv u => ∃ (j : Nat) (G : Nat → Int), iv = .int .i64 j ∧ j ≤ m ∧ FarS u gm M M G ∧ Hid (TabP (Col (nearF W H n f) f n) z m G j) ∧ Kp (fun b => b = gm) w5 u) (fun iv _ => m - (intOf iv).toNat)
  case atStart => exact ⟨0, _, rfl, by omega, hfd, hide (fun i hi => absurd hi (Nat.not_lt_zero _)), Kp.refl _ _⟩
  case round =>
    obtain ⟨j, G, rfl, hj, hG, HT, hkp⟩ := hrel
    generalize wr = w6 at *
    clear hfd
    have hgr6 : Gr w w6 := hkp.gr hgr (fun k e => by omega)
    by_cases hjm : j < m
    · have hji : (j : Int) < (m : Int) := by omega
      have d1 := hkp.cell c1 hbB
      have d2 := hkp.cell c2 hbB
      have d3 := hkp.cell c3 hbB
      obtain ⟨b, o, rfl, hb, hc⟩ := g0.at (by omega)
      have e1 := cell_gr (hc j hjm) hgr6
      obtain ⟨l1, l2, l3⟩ := HO.out.loc j hjm
      obtain ⟨v, hv⟩ : ∃ v : Nat, z j = (v : Int) := ⟨_, (Int.toNat_of_nonneg l1).symm⟩
      rw [hv] at e1 l2 l3
      rw [Int.toNat_natCast] at l3
      have hvn : v < n := by omega
      have HC := hide hc
      have HV := hide hv
      have j0 : (0 : Int) ≤ (j : Int) := by omega
      clear hc hv l1 l2
      go_wp2_with fail
      refine (to_yes (h0.gr hgr6) htb hvn l3).mono ?_
      rintro e w7 ⟨⟨gf, cf, F, rfl, hge, hfar, hcol⟩, hg7⟩
      have hne : gf ≠ gm := by have := hG.lt; omega
      have hgr7 := hgr6.trans hg7
      have hG7 := hG.gr hg7
      have hkp7 := hkp.grb hg7
      have HCL : Hid (Col (nearF W H n f) f n (z j).toNat F) := hide (by rw [HV.out, Int.toNat_natCast]; exact hcol)
      clear hG hkp d1 d2 d3 e1 l3 hcol hge hg7
      go_wp2_with fail
      go_loopw [44] (fun iv u => ∃ (r : Nat) (E : Nat → Int), iv = .int .i64 r ∧ r ≤ m ∧ FarS u gm M M E ∧ Hid (TabP (Col (nearF W H n f) f n) z m E j ∧ ∀ q, q < r → E (q * m + j) = F (z q).toNat) ∧ Kp (fun b => b = gm) w7 u) (fun iv _ => m - (intOf iv).toNat)
      case atStart => exact ⟨0, G, rfl, by omega, hG7, hide ⟨HT.out, fun q hq => absurd hq (Nat.not_lt_zero _)⟩, Kp.refl _ _⟩
      case round =>
        obtain ⟨r, E, rfl, hr, hE, HE, hkq⟩ := hrel
        generalize wr = w8 at *
        clear hG7
        by_cases hrm : r < m
        · have hri : (r : Int) < (m : Int) := by omega
          have hgr8 : Gr w w8 := hkq.gr hgr7 (fun k e => by omega)
          have e2 := cell_gr (HC.out r hrm) hgr8
          obtain ⟨l1, l2, -⟩ := HO.out.loc r hrm
          obtain ⟨u, hu⟩ : ∃ u : Nat, z r = (u : Int) := ⟨_, (Int.toNat_of_nonneg l1).symm⟩
          rw [hu] at e2 l2
          have hun : u < n := by omega
          have hui : (u : Int) < (n : Int) := by omega
          have e3 := hkq.cell (hfar.cell hun) hne
          obtain ⟨x, hx⟩ : ∃ x, x = F u := ⟨_, rfl⟩
          rw [← hx] at e3
          obtain ⟨R, P, hw1, hw2, p0, hPi, HP, hlt⟩ := place_go HM.out (by omega) hrm hjm
          have y1 := hE.cell hlt
          have y2 := hE.frozen P
          have HX : Hid (x = F (z r).toNat) := hide (by rw [hx, hu, Int.toNat_natCast])
          have r0 : (0 : Int) ≤ (r : Int) := by omega
          have u0 : (0 : Int) ≤ (u : Int) := by omega
          clear hu hx l1 l2
          go_wp2_with fail
          exact ⟨⟨r + 1, upF E P x, by go_num, by omega, hE.set P x, hide ⟨by rw [HP.out]; exact HE.out.1.put hjm, by rw [HP.out, HX.out]; exact rows_put HE.out.2 hjm⟩, hkq.set (.inl rfl) _⟩, by simp [intOf]; omega⟩
        · obtain rfl : r = m := by omega
          go_wp2_with fail
          exact ⟨⟨j + 1, E, by go_num, by omega, hE, hide (HE.out.1.next HCL.out HE.out.2), hkp7.trans hkq⟩, by simp [intOf]; omega⟩
    · obtain rfl : j = m := by omega
      go_wp2_with fail
      go_ret2
      exact ⟨⟨gm, M, G, rfl, hgw, hG, HT.out⟩, hgr6⟩
end Go.Proofs.YtgbadbkipaccgaaGreat
