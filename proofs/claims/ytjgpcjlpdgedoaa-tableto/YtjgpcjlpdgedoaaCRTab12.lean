/- The document's table: how far open locals are from each other. No condition. -/
import Derived.Test.YtjgpcjlpdgedoaaXRef9
import Derived.Test.YtjgpcjlpdgedoaaCMake12
import Derived.Deep.RegionHeld3
namespace Go.Proofs.Ytjgpcjlpdgedoaa
open Go.RowKit
set_option maxRecDepth 20000

/-- the document's Spread of one goal -/
theorem rspread_goal {W H : Int} {al : Option Addr} {n cap : Nat} {f : Nat → Int} {v : Nat} {w1 u : World} (h : Sl w1 al n f) (htb : mayTB W H n f = true) (hv : v < n) (ho : f v ≠ 255)
    (hg : Gr (w1.alloc (.cells #[.int .i64 (v : Int), .int .i64 4, .int .i64 0] 40)) u) :
    Calls Try.prog 19 #[.agg #[.int .i64 W, .int .i64 H, .slice al n cap], .slice (some ⟨w1.heap.size, 0, none⟩) 1 1] u fun e w' => (∃ g cf F, e = .returned (.slice (some ⟨g, 0, none⟩) n cf) ∧ w1.heap.size ≤ g ∧ FarS w' g cf n F ∧ Sprd (nearF W H n f) f n (goalL (v : Int)) F) ∧ Gr w1 w' := by
  have hga : Gr w1 (w1.alloc (.cells #[.int .i64 (v : Int), .int .i64 4, .int .i64 0] 40)) := (Gr.refl w1).alloc _
  have hI : SlS _ _ 1 1 (goalL (v : Int)) := seeds_one w1 ((v : Int), 4, 0)
  simp only at hI
  generalize (w1.alloc (.cells #[.int .i64 (v : Int), .int .i64 4, .int .i64 0] 40)) = u0 at *
  have hgu := hga.trans hg
  refine (rspread_any (h.gr hgu) htb (hI.gr hg) (sds_goal hv ho) (by omega)).mono ?_
  rintro e w2 ⟨⟨g, cf, F, rfl, hge, hfar, hsp⟩, hg2⟩
  have := hgu.size
  exact ⟨⟨g, cf, F, rfl, by omega, hfar, hsp⟩, hgu.trans hg2⟩

set_option maxHeartbeats 4000000 in
theorem rtable_any {W H : Int} {al : Option Addr} {n cap : Nat} {f : Nat → Int} {bl : Option Addr} {m c : Nat} {z : Nat → Int} {w : World}
    (h : Sl w al n f) (g : SlI w bl m z) (htb : mayTB W H n f = true) (ho : Opn f n z m) :
    Calls Try.prog 16 #[.agg #[.int .i64 W, .int .i64 H, .slice al n cap], .slice bl m c] w fun e w' => (∃ g cf G, e = .returned (.slice (some ⟨g, 0, none⟩) (m * m) cf) ∧ w.heap.size ≤ g ∧ FarS w' g cf (m * m) G ∧ TabP (fun g d => Sprd (nearF W H n f) f n (goalL (g : Int)) d) z m G m) ∧ Gr w w' := by
  have h0 := h
  have g0 := g
  have hn2 := (mayTB_n htb).2.1
  have hmn := ho.size
  obtain ⟨M, hM⟩ : ∃ M, M = m * m := ⟨_, rfl⟩
  have hMM : M ≤ 65536 := by rw [hM]; exact Nat.mul_le_mul (show m ≤ 256 by omega) (show m ≤ 256 by omega)
  have hMw : IntKind.i64.wrap ((m : Int) * (m : Int)) = (M : Int) := by rw [hM, Int.natCast_mul, wrapI (by rw [← Int.natCast_mul, ← hM]; omega)]
  rw [← hM]
  have HM := hide hM
  clear hM
  obtain ⟨c1, c2, c3⟩ := tri_at w W H (.slice al n cap)
  have hgr : Gr w (w.alloc (.cells #[.int .i64 W, .int .i64 H, .slice al n cap] 24)) := (Gr.refl w).alloc _
  have HO := hide ho
  clear ho
  go_enter Try.func16, Try.ntmps16
  go_upto_region 1 with fail
  generalize (w.alloc (.cells #[.int .i64 W, .int .i64 H, .slice al n cap] 24)) = w4 at *
  generalize hB0 : w.heap.size = B0 at *
  have hws := hgr.size
  clear h g
  have hmk := make_rows M (by omega) w4
  have hfd := rows_made w4 M (by omega)
  have hgm : Gr w4 (w4.alloc (.cells (madeCells #[.int .i64 0] M) 3)) := (Gr.refl w4).alloc _
  have hB4 := World.block_lt_of_cell? _ _ c1
  go_upto_region 2 with fail
  generalize (w4.alloc (.cells (madeCells #[.int .i64 0] M) 3)) = w5 at *
  generalize hg2e : w4.heap.size = gm at *
  clear hmk hMw
  replace c1 := cell_gr c1 hgm
  replace c2 := cell_gr c2 hgm
  replace c3 := cell_gr c3 hgm
  replace hgr := hgr.trans hgm
  have hbB : B0 ≠ gm := by simp only at hB4; omega
  have hgw : w.heap.size ≤ gm := by omega
  clear hgm hg2e
  go_wp2_with fail
  go_loopw [6] (fun iv u => ∃ (j : Nat) (G : Nat → Int), iv = .int .i64 j ∧ j ≤ m ∧ FarS u gm M M G ∧ Hid (TabP (fun g d => Sprd (nearF W H n f) f n (goalL (g : Int)) d) z m G j) ∧ Kp (fun b => b = gm) w5 u) (fun iv _ => m - (intOf iv).toNat)
  case atStart => exact ⟨0, _, rfl, by omega, hfd, hide (fun i hi => absurd hi (Nat.not_lt_zero _)), Kp.refl _ _⟩
  case round =>
    obtain ⟨j, G, rfl, hj, hG, HT, hkp⟩ := hrel
    generalize wr = w6 at *
    clear hfd
    have hgr6 : Gr w w6 := hkp.gr hgr (fun k e => by omega)
    by_cases hjm : j < m
    · have hji : (j : Int) < (m : Int) := by omega
      have d1 := hkp.cell c1 hbB
      have d2 := hkp.cell c2 hbB
      have d3 := hkp.cell c3 hbB
      obtain ⟨b, o, rfl, hb, hc⟩ := g0.at (by omega)
      have e1 := cell_gr (hc j hjm) hgr6
      obtain ⟨l1, l2, l3⟩ := HO.out.loc j hjm
      obtain ⟨v, hv⟩ : ∃ v : Nat, z j = (v : Int) := ⟨_, (Int.toNat_of_nonneg l1).symm⟩
      rw [hv] at e1 l2 l3
      rw [Int.toNat_natCast] at l3
      have hvn : v < n := by omega
      have HC := hide hc
      have HV := hide hv
      have j0 : (0 : Int) ≤ (j : Int) := by omega
      clear hc hv l1 l2
      have hga : Gr w6 (w6.alloc (.cells #[.int .i64 (v : Int), .int .i64 4, .int .i64 0] 40)).drew := ((Gr.refl w6).alloc _).drew
      have HD := hide (And.intro (cell_gr d1 (Gr.refl w6).drew) (And.intro (cell_gr d2 (Gr.refl w6).drew) (And.intro (cell_gr d3 (Gr.refl w6).drew) (cell_gr e1 (Gr.refl w6).drew))))
      have HB := hide (And.intro (cell_gr d1 hga) (And.intro (cell_gr d2 hga) (And.intro (cell_gr d3 hga) (cell_gr e1 hga))))
      have HSP := hide (rspread_goal (W := W) (H := H) (cap := cap) (h0.gr hgr6) htb hvn l3 ((Gr.refl (w6.alloc (.cells #[.int .i64 (v : Int), .int .i64 4, .int .i64 0] 40))).drew))
      clear hga
      go_upto_region 5 with fail
      go_region_held3 (fun u => u.cell? ⟨B0, 0, none⟩ = some (.int .i64 W) ∧ u.cell? ⟨B0, 1, none⟩ = some (.int .i64 H) ∧ u.cell? ⟨B0, 2, none⟩ = some (.slice al n cap) ∧ u.cell? ⟨b, o + j, none⟩ = some (.int .i64 (v : Int))) (first | with_reducible exact HD.out | with_reducible exact HB.out | exact ⟨cell_gr d1 hg9, cell_gr d2 hg9, cell_gr d3 hg9, cell_gr e1 hg9⟩) (first
        | (go_at_call 19; refine HSP.out.mono ?_; rintro e w7 ⟨⟨gf, cf, F, rfl, hge, hfar, hcol⟩, hg9⟩))
      have hne : gf ≠ gm := by have := hG.lt; omega
      have hgr7 := hgr6.trans hg9
      have hG7 := hG.gr hg9
      have hkp7 := hkp.grb hg9
      have HCL : Hid (Sprd (nearF W H n f) f n (goalL (((z j).toNat : Nat) : Int)) F) := hide (by rw [HV.out, Int.toNat_natCast]; exact hcol)
      clear hG hkp d1 d2 d3 e1 l3 hcol hge hg9
      go_wp2_with fail
      go_loopw [8] (fun iv u => ∃ (r : Nat) (E : Nat → Int), iv = .int .i64 r ∧ r ≤ m ∧ FarS u gm M M E ∧ Hid (TabP (fun g d => Sprd (nearF W H n f) f n (goalL (g : Int)) d) z m E j ∧ ∀ q, q < r → E (q * m + j) = F (z q).toNat) ∧ Kp (fun b => b = gm) w7 u) (fun iv _ => m - (intOf iv).toNat)
      case atStart => exact ⟨0, G, rfl, by omega, hG7, hide ⟨HT.out, fun q hq => absurd hq (Nat.not_lt_zero _)⟩, Kp.refl _ _⟩
      case round =>
        obtain ⟨r, E, rfl, hr, hE, HE, hkq⟩ := hrel
        generalize wr = w8 at *
        clear hG7
        by_cases hrm : r < m
        · have hri : (r : Int) < (m : Int) := by omega
          have hgr8 : Gr w w8 := hkq.gr hgr7 (fun k e => by omega)
          have e2 := cell_gr (HC.out r hrm) hgr8
          obtain ⟨l1, l2, -⟩ := HO.out.loc r hrm
          obtain ⟨u, hu⟩ : ∃ u : Nat, z r = (u : Int) := ⟨_, (Int.toNat_of_nonneg l1).symm⟩
          rw [hu] at e2 l2
          have hun : u < n := by omega
          have hui : (u : Int) < (n : Int) := by omega
          have e3 := hkq.cell (hfar.cell hun) hne
          obtain ⟨x, hx⟩ : ∃ x, x = F u := ⟨_, rfl⟩
          rw [← hx] at e3
          obtain ⟨R, P, hw1, hw2, p0, hPi, HP, hlt⟩ := place_go HM.out (by omega) hrm hjm
          have y1 := hE.cell hlt
          have y2 := hE.frozen P
          have HX : Hid (x = F (z r).toNat) := hide (by rw [hx, hu, Int.toNat_natCast])
          have r0 : (0 : Int) ≤ (r : Int) := by omega
          have u0 : (0 : Int) ≤ (u : Int) := by omega
          clear hu hx l1 l2
          go_wp2_with fail
          exact ⟨⟨r + 1, upF E P x, by go_num, by omega, hE.set P x, hide ⟨by rw [HP.out]; exact HE.out.1.put hjm, by rw [HP.out, HX.out]; exact rows_put HE.out.2 hjm⟩, hkq.set (.inl rfl) _⟩, by simp [intOf]; omega⟩
        · obtain rfl : r = m := by omega
          go_wp2_with fail
          exact ⟨⟨j + 1, E, by go_num, by omega, hE, hide (HE.out.1.next HCL.out HE.out.2), hkp7.trans hkq⟩, by simp [intOf]; omega⟩
    · obtain rfl : j = m := by omega
      go_wp2_with fail
      go_ret
      exact ⟨⟨gm, M, G, rfl, hgw, hG, HT.out⟩, hgr6⟩
end Go.Proofs.Ytjgpcjlpdgedoaa
